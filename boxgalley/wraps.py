"""The lines of a wrap."""


def lines_of(width, gap, wishes):
    starts = []
    taken = 0
    for place, wish in enumerate(wishes):
        if starts == [] or taken + gap + wish > width:
            starts.append(place)
            taken = wish
        else:
            taken = taken + gap + wish
    return starts
