"""The places of a table's parts, in rows and columns."""


def is_free(taken, row, column, span):
    for down in range(row, row + span[1]):
        for across in range(column, column + span[0]):
            if (down, across) in taken:
                return False
    return True


def first_place(taken, columns, span):
    # A span wider than the table has no place in it; column 0 is looked at all the same, or the search would never end.
    tried = max(columns - span[0] + 1, 1)
    row = 0
    while True:
        for column in range(tried):
            if is_free(taken, row, column, span):
                return (row, column)
        row = row + 1


def take(taken, place, span):
    for down in range(span[1]):
        for across in range(span[0]):
            taken[(place[0] + down, place[1] + across)] = True


def put_cells(columns, spans):
    taken = {}
    places = []
    for span in spans:
        place = first_place(taken, columns, span)
        take(taken, place, span)
        places.append(place)
    return places


def rows_taken(places, spans):
    return max([place[0] + span[1] for place, span in zip(places, spans)], default=0)
