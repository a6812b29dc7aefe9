import pickle
import unittest

from boxgalley import errors
from boxgalley.errors import BoxError

NAMED = ("BadBox", "TooGreat", "TooWide", "NoBox", "NotTurned", "NoFloor")
PLAIN = ("NoTree", "NoRows", "NoEdit", "NoRead", "NoName", "NoNumber", "NoRow")
ALL = NAMED + PLAIN + ("Ring", "NoPages")


def made(name):
    if name in NAMED:
        return getattr(errors, name)("abc")
    if name == "Ring":
        return errors.Ring(["a", "b", "a"])
    if name == "NoPages":
        return errors.NoPages("a", "b")
    return getattr(errors, name)()


class Errors(unittest.TestCase):
    def test_box_error_is_a_value_error(self):
        self.assertEqual(BoxError.__bases__, (ValueError,))

    def test_each_is_a_box_error_and_none_of_the_others(self):
        for name in ALL:
            for other in ALL:
                with self.subTest(name=name, other=other):
                    self.assertEqual(isinstance(made(name), getattr(errors, other)), name == other)
            self.assertIsInstance(made(name), BoxError)
            self.assertIsInstance(made(name), ValueError)

    def test_no_class_more(self):
        kinds = [name for name, thing in vars(errors).items() if isinstance(thing, type)]
        self.assertEqual(sorted(kinds), sorted(ALL + ("BoxError",)))

    def test_name(self):
        for name in NAMED:
            self.assertEqual(made(name).name, "abc")
        self.assertIsNone(errors.BadBox(None).name)

    def test_names_of_a_ring(self):
        names = ["a", "b", "a"]
        ring = errors.Ring(names)
        self.assertEqual(ring.names, ["a", "b", "a"])
        names.append("c")
        self.assertEqual(ring.names, ["a", "b", "a"])
        ring.names.append("d")
        self.assertEqual(names, ["a", "b", "a", "c"])
        self.assertNotIn("c", str(ring))

    def test_first_and_last(self):
        self.assertEqual((made("NoPages").first, made("NoPages").last), ("a", "b"))

    def test_values_stay_in_a_copy(self):
        for name in ALL:
            error = made(name)
            again = pickle.loads(pickle.dumps(error))
            self.assertEqual((again.__class__, vars(again)), (error.__class__, vars(error)))

    def test_raised_and_taken_by_name(self):
        for name in ALL:
            with self.assertRaises(getattr(errors, name)):
                raise made(name)


if __name__ == "__main__":
    unittest.main()
