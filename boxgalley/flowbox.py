"""What a box of words with floats asks for, where the floats stand, and the rows that its words are set in."""

from boxgalley.boxes import SIZE_MOST, name_of, parts_of, what_of
from boxgalley.flows import stand_floats, stretches, widths_of
from boxgalley.wordbox import all_in_one_row, longest_piece, rows_filled, rows_for
from boxgalley.words import set_rows

# Words are set beside floats up to this row, and else beneath them.
BESIDE_MOST = 60


def sides_of(box):
    return what_of(box)[0]


def words_of(box):
    return what_of(box)[1]


def joint_of(box):
    return what_of(box)[2]


def flow_wide(box, wides):
    measures = [wides[name_of(part)] for part in parts_of(box)]
    least = max([measure[0] for measure in measures] + [longest_piece(words_of(box))])
    wish = sum([measure[1] for measure in measures]) + all_in_one_row(words_of(box))
    return (least, wish, SIZE_MOST)


def laid_width(box, width, wides):
    return max(width, flow_wide(box, wides)[0], 1)


def float_widths(box, width, wides):
    laid = laid_width(box, width, wides)
    names = [name_of(part) for part in parts_of(box)]
    return dict([(name, max(min(wides[name][1], laid), 1)) for name in names])


def floats_of(box, width, wides, highs):
    widths = float_widths(box, width, wides)
    floats = []
    for part, side in zip(parts_of(box), sides_of(box)):
        name = name_of(part)
        floats.append((name, side, widths[name], max(highs[name][1], 1)))
    return floats


def floats_end(standing):
    return max([placed[2] + placed[4] for placed in standing], default=0)


def first_row(standing):
    # The row of the flow from which the rows of its words count.
    end = floats_end(standing)
    return end if end > BESIDE_MOST else 0


def flow_rows(box, laid, floats, standing):
    # A pair (widths, many), by which the rows are set or looked at.
    if first_row(standing) > 0:
        return ([laid], rows_for(words_of(box)))
    many = floats_end(standing) + rows_for(words_of(box))
    return (widths_of(stretches(laid, floats, standing), many), many)


def flow_paper(box, width, wides, highs):
    laid = laid_width(box, width, wides)
    floats = floats_of(box, width, wides, highs)
    stood = stand_floats(laid, floats)
    rows = flow_rows(box, laid, floats, stood[0])
    told = set_rows(words_of(box), joint_of(box), rows[0], rows[1])
    return (stood[0], stood[1], told[0], told[1])


def flow_high(paper):
    many = max(floats_end(paper[0]), first_row(paper[0]) + rows_filled(paper[2]))
    return (many, many, SIZE_MOST)


def row_places(laid, floats, paper):
    # Where each row of words begins in the flow, as tuples (row, x).
    told = stretches(laid, floats, paper[0])
    places = []
    for triple in paper[2]:
        row = first_row(paper[0]) + triple[0]
        places.append((row, [stretch[1] for stretch in told if stretch[0] <= row][-1]))
    return places
