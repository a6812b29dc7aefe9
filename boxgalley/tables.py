"""The columns and rows of a table, raised by what its parts ask for, and what the table asks for."""

from boxgalley.boxes import name_of, parts_of, what_of
from boxgalley.cells import put_cells, rows_taken
from boxgalley.shares import deal

# The places in a measure (least, wish, most).
LEAST = 0
WISH = 1
MOST_OF_ALL = 1000000000


def raise_order(ask):
    return (ask[2], ask[0])


def raise_tracks(many, gap, floor, asks):
    numbers = [floor[column] for column in range(many)]
    for name, first, spanned, amount in asks:
        if spanned == 1:
            numbers[first] = max(numbers[first], amount)
    raises = []
    several = [ask for ask in asks if ask[2] > 1]
    for name, first, spanned, amount in sorted(several, key=raise_order):
        lack = amount - sum(numbers[first:first + spanned]) - gap * (spanned - 1)
        # Columns are dealt to by their numbers, which are in the same order as their names.
        dealt = deal(max(lack, 0), dict([(column, 1) for column in range(first, first + spanned)]))
        for column, cells in dealt.items():
            numbers[column] = numbers[column] + cells
        raises.extend([(name, column, cells) for column, cells in dealt.items() if cells > 0])
    return (numbers, raises)


def gap_of(box):
    return what_of(box)[1]


def spans_of(box):
    return list(what_of(box)[3])


def cells_of(box):
    return put_cells(what_of(box)[0], spans_of(box))


def table_rows(box):
    return rows_taken(cells_of(box), spans_of(box))


def column_spans(box):
    return [(cell[1], span[0]) for cell, span in zip(cells_of(box), spans_of(box))]


def row_spans(box):
    return [(cell[0], span[1]) for cell, span in zip(cells_of(box), spans_of(box))]


def asks_of(box, spans, measures, which):
    asks = []
    for part, span in zip(parts_of(box), spans):
        asks.append((name_of(part), span[0], span[1], measures[name_of(part)][which]))
    return asks


def tracks_of(box, many, spans, measures):
    leasts = raise_tracks(many, gap_of(box), [0] * many, asks_of(box, spans, measures, LEAST))
    wishes = raise_tracks(many, gap_of(box), leasts[0], asks_of(box, spans, measures, WISH))
    return (leasts[0], wishes[0], leasts[1] + wishes[1])


def columns_of(box, wides):
    # A tuple (leasts, wishes, raises), as of the rows.
    return tracks_of(box, what_of(box)[0], column_spans(box), wides)


def rows_of(box, highs):
    return tracks_of(box, table_rows(box), row_spans(box), highs)


def tracks_asked(box, tracks):
    if parts_of(box) == ():
        return (0, 0, 0)
    gaps = gap_of(box) * (len(tracks[0]) - 1)
    # The most of one column or row alone comes to all that a most may be.
    return (sum(tracks[0]) + gaps, sum(tracks[1]) + gaps, MOST_OF_ALL)


def table_wide(box, wides):
    return tracks_asked(box, columns_of(box, wides))


def table_high(box, highs):
    return tracks_asked(box, rows_of(box, highs))
