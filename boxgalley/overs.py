"""Things anchored in a room, and laid over others."""


def anchored(room, size, anchor):
    free = room - size
    half = free // 2
    bases = {"start": 0, "mid": half, "mid2": free - half, "end": free}
    place = bases[anchor[0]] + anchor[1]
    if place < 0:
        return 0
    return min(place, free)


def over_places(W, H, things):
    places = []
    for name, w, h, across, down in things:
        wide = min(w, W)
        high = min(h, H)
        places.append((name, anchored(W, wide, across), anchored(H, high, down), wide, high))
    return places
