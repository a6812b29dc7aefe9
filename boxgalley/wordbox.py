"""What a box of words asks for, and the rows that its words are set in."""

from boxgalley.boxes import SIZE_MOST, what_of
from boxgalley.words import pieces_of, set_rows, text_of


def longest_piece(words):
    return max([len(text_of(words, place, place + 1)) for place in range(len(pieces_of(words)))], default=0)


def all_in_one_row(words):
    return len(text_of(words, 0, len(pieces_of(words))))


def rows_for(words):
    # One for each piece, so that they always are enough; a table of words has one row at least.
    return max(len(pieces_of(words)), 1)


def rows_filled(triples):
    return 0 if triples == [] else triples[-1][0] + 1


def words_wide(box):
    words = what_of(box)[0]
    return (longest_piece(words), all_in_one_row(words), SIZE_MOST)


def words_rows(box, width):
    # A pair (widths, many), by which the rows are set or looked at.
    words = what_of(box)[0]
    return ([max(width, longest_piece(words), 1)], rows_for(words))


def words_paper(box, width):
    told = words_rows(box, width)
    return set_rows(what_of(box)[0], what_of(box)[1], told[0], told[1])


def words_high(paper):
    many = rows_filled(paper[0])
    return (many, many, SIZE_MOST)
