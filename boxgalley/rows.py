"""Where things stand in a line."""


def space_ahead(over, align):
    half = over // 2
    ahead = {"start": 0, "end": over, "mid": half, "mid2": over - half}
    return ahead[align]


def stand(room, gap, align, side, sizes):
    over = max(room - sum(sizes) - gap * (len(sizes) - 1), 0)
    begin = space_ahead(over, align)
    begins = []
    for size in sizes:
        # Gaps alone may come to more than the room.
        held = min(begin, room)
        begins.append(held if side == "left" else room - held - size)
        begin = begin + size + gap
    return begins
