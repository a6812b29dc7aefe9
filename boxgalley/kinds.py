"""By their kinds: what tables, words, flows and overs ask for, their papers, and the parts of flows and overs."""

from boxgalley.boxes import kind_of
from boxgalley.flowbox import float_widths, flow_high, flow_paper, flow_wide
from boxgalley.overbox import over_asked, over_laid, over_sizes
from boxgalley.tables import table_high, table_wide
from boxgalley.wordbox import words_high, words_paper, words_wide


def wide_asked(box, wides):
    kind = kind_of(box)
    if kind == "table":
        return table_wide(box, wides)
    if kind == "words":
        return words_wide(box)
    if kind == "flow":
        return flow_wide(box, wides)
    return over_asked(box, wides)


def paper_of(box, width, wides, highs):
    # Tables have papers by their sizes, which are not told of here; overs have none.
    if kind_of(box) == "words":
        return words_paper(box, width)
    if kind_of(box) == "flow":
        return flow_paper(box, width, wides, highs)
    return None


def high_asked(box, highs, paper):
    kind = kind_of(box)
    if kind == "table":
        return table_high(box, highs)
    if kind == "words":
        return words_high(paper)
    if kind == "flow":
        return flow_high(paper)
    return over_asked(box, highs)


def part_widths(box, width, wides):
    if kind_of(box) == "flow":
        return float_widths(box, width, wides)
    return over_sizes(box, width, wides)


def part_places(box, width, height, wides, highs, paper):
    # From the box's corner; floats stand as the paper tells it, however wide and high the flow is.
    told = paper[0] if kind_of(box) == "flow" else over_laid(box, width, height, wides, highs)
    return dict([(name, (across, down, wide, high)) for name, across, down, wide, high in told])
