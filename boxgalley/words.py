"""Words set in rows at the least cost."""

from boxgalley.errors import NoRows, TooWide


def pieces_of(words):
    pieces = []
    for word in words:
        pieces.extend(word)
    return pieces


def joints_of(words):
    joints = [False]
    for word in words:
        for number in range(1, len(word) + 1):
            joints.append(number < len(word))
    return joints


def text_of(WORDS, start, till):
    pieces = pieces_of(WORDS)
    joints = joints_of(WORDS)
    text = ""
    for place in range(start, till):
        if place > start and not joints[place]:
            text = text + " "
        text = text + pieces[place]
    if joints[till]:
        text = text + "-"
    return text


# What words, the price of a joint and widths say of any row and any two places:
# told once here for those who set rows and for those who only look at them.
class Setting:
    def __init__(self, words, joint, widths):
        self.widths = list(widths)
        self.pieces = pieces_of(words)
        self.last = len(self.pieces)
        joints = joints_of(words)
        self.prices = [joint if jointed else 0 for jointed in joints]
        # A text's length is told by where its pieces begin and end in the row
        # of all words, so that none need be written out: a joint's "-" counts
        # to the end alone.
        self.begins = []
        self.ends = [0]
        across = 0
        for place, piece in enumerate(self.pieces, start=1):
            self.begins.append(across)
            across = across + len(piece)
            if joints[place]:
                self.ends.append(across + 1)
            else:
                self.ends.append(across)
                across = across + 1

    def width_at(self, row):
        return self.widths[min(row, len(self.widths) - 1)]

    def length_of(self, start, till):
        return self.ends[till] - self.begins[start]

    def fits(self, row, start, till):
        return self.length_of(start, till) <= self.width_at(row)

    def cost_at(self, row, start, till):
        return (self.width_at(row) - self.length_of(start, till)) ** 2 + self.prices[till]

    def empty_cost_at(self, row):
        return self.width_at(row) ** 2

    def may_be_empty(self, row, place):
        return place < self.last and not self.fits(row, place, place + 1)

    def steps_at(self, row, start):
        # Pairs (place then, cost), by an empty row and by each triple but a last one.
        tills = [till for till in range(start + 1, self.last) if self.fits(row, start, till)]
        told = [(till, self.cost_at(row, start, till)) for till in tills]
        if self.may_be_empty(row, start):
            told.append((start, self.empty_cost_at(row)))
        return told


def row_cost(WORDS, JOINT, widths, triple):
    return Setting(WORDS, JOINT, widths).cost_at(triple[0], triple[1], triple[2])


def next_costs(setting, row, costs):
    after = [None] * len(costs)
    for start, number in enumerate(costs):
        if number is not None:
            for till, cost in setting.steps_at(row, start):
                if after[till] is None or number + cost < after[till]:
                    after[till] = number + cost
    return after


def table_for(setting, many):
    table = [[0] + [None] * setting.last]
    for row in range(many):
        table.append(next_costs(setting, row, table[row]))
    return table


def table_of(WORDS, JOINT, widths, many):
    return table_for(Setting(WORDS, JOINT, widths), many)


def refuse_wide(setting):
    greatest = max(setting.widths)
    for place, piece in enumerate(setting.pieces):
        if setting.length_of(place, place + 1) > greatest:
            raise TooWide(piece)


def ends_at(setting, row, costs):
    # Triples (cost, row, from) in this order, so that the least is the best last triple.
    ends = []
    for start in range(setting.last):
        if costs[start] is not None and setting.fits(row, start, setting.last):
            ends.append((costs[start], row, start))
    return ends


def best_end(setting, many, table):
    ends = []
    for row in range(many):
        ends.extend(ends_at(setting, row, table[row]))
    if ends == []:
        raise NoRows()
    return min(ends)


def leads_to(setting, table, row, start, place):
    number = table[row][start]
    return number is not None and (place, table[row + 1][place] - number) in setting.steps_at(row, start)


def place_before(setting, table, row, place):
    start = 0
    while not leads_to(setting, table, row, start, place):
        start = start + 1
    return start


def triples_back(setting, table, end):
    row = end[1]
    place = end[2]
    triples = [(row, place, setting.last)]
    while row > 0:
        row = row - 1
        start = place_before(setting, table, row, place)
        if start < place:
            triples.append((row, start, place))
        place = start
    triples.reverse()
    return triples


def set_rows(WORDS, JOINT, widths, many):
    setting = Setting(WORDS, JOINT, widths)
    refuse_wide(setting)
    table = table_for(setting, many)
    if setting.last == 0:
        return ([], table)
    return (triples_back(setting, table, best_end(setting, many, table)), table)
