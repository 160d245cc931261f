"""The cells of one level, its spots, and what each act does from a spot.

A spot is one whole number: its marks times the number of cells, plus its cell's number.
Marks are one whole number too: a bit for each thing in order, then one for A, then one for B.
"""

WALL = 0
FLOOR = 1
START = 2
STAIRS = 3
SMALL_KEY = 4
LOCK = 5
LEVER_A = 6
LEVER_B = 7
GATE_A_ON = 8
GATE_A_OFF = 9
GATE_B_ON = 10
GATE_B_OFF = 11
KEYS = (4, 12, 13, 14)
THINGS = (4, 5, 12, 13, 14)
LEVERS = (6, 7)
GATES = (8, 9, 10, 11)
GATES_OPEN_IF_ON = (8, 10)
KEY_OF_DOOR = {15: 12, 16: 13, 17: 14}
# A move to such a cell changes the marks, or can't be done with some of them.
GOES_BY_MARKS = (4, 5, 8, 9, 10, 11, 12, 13, 14, 15, 16, 17)
DIRECTION_OF_DROP = {18: 0, 19: 1, 20: 2, 21: 3}

STEP_RIGHT = (0, 1, 0, -1)
STEP_DOWN = (-1, 0, 1, 0)
PULL = 4
ACTS = 5

# Six things at most, and the two levers.
BITS = (1, 2, 4, 8, 16, 32, 64, 128)
MOST_THINGS = 6

# Stands for a spot, a cell or marks that an act doesn't lead to.
CANNOT = -1

NO_START_OR_STAIRS = -4
TOO_MANY_THINGS = -5


def things_of(codes):
    return [cell for cell in range(len(codes)) if codes[cell] in THINGS]


# The refusal that a level with these codes meets, or 0 if it is right.
def refusal_of(codes):
    if codes.count(START) != 1 or STAIRS not in codes:
        return NO_START_OR_STAIRS
    if len(things_of(codes)) > MOST_THINGS:
        return TOO_MANY_THINGS
    return 0


# The codes of the level in which this cell has another code; the codes themselves stay as they are.
def changed_codes(codes, cell, code):
    changed = list(codes)
    changed[cell] = code
    return changed


# The codes of the level without the thing at this cell: a key leaves floor, a lock a wall.
def codes_without(codes, cell):
    return changed_codes(codes, cell, WALL if codes[cell] == LOCK else FLOOR)


def count_bits(number):
    return len([bit for bit in BITS if number & bit])


def may_leave(code, act):
    return code not in DIRECTION_OF_DROP or DIRECTION_OF_DROP[code] == act


# Whether a move may come to such a cell, whatever the marks are.
def may_come(code, act):
    if code in DIRECTION_OF_DROP:
        return DIRECTION_OF_DROP[code] != (act + 2) % 4
    return code != WALL


class Board:
    def __init__(self, width, height, codes):
        self.width = width
        self.height = height
        self.codes = codes
        self.size = width * height
        self.things = things_of(codes)
        self.thing_bits = {}
        self.code_bits = {}
        self.set_thing_bits()
        self.lever_bits = {}
        self.set_lever_bits()
        self.exits = [self.find_exits(cell) for cell in range(self.size)]
        # Most cells are of this kind, and most of a search's time would go into asking them.
        self.is_free = [code not in GOES_BY_MARKS for code in codes]
        # The same spots are asked for by one call after another.
        self.known_steps = {}

    def set_thing_bits(self):
        for code in THINGS:
            self.code_bits[code] = 0
        for number, cell in enumerate(self.things):
            self.thing_bits[cell] = BITS[number]
            self.code_bits[self.codes[cell]] += BITS[number]

    # By the code of a lever or of a gate: the bit of the marks that it goes by.
    def set_lever_bits(self):
        for code in (LEVER_A, GATE_A_ON, GATE_A_OFF):
            self.lever_bits[code] = BITS[len(self.things)]
        for code in (LEVER_B, GATE_B_ON, GATE_B_OFF):
            self.lever_bits[code] = BITS[len(self.things) + 1]

    # The cell's number, or CANNOT if there's no such cell.
    def cell_at(self, x, y):
        if 0 <= x < self.width and 0 <= y < self.height:
            return y * self.width + x
        return CANNOT

    def neighbour(self, cell, act):
        return self.cell_at(cell % self.width + STEP_RIGHT[act], cell // self.width + STEP_DOWN[act])

    # The moves from a cell, with the cells they go to, as far as the marks don't matter.
    def find_exits(self, cell):
        found = []
        if self.codes[cell] == STAIRS:
            return found
        for act in range(PULL):
            there = self.neighbour(cell, act)
            if there != CANNOT and may_leave(self.codes[cell], act) and may_come(self.codes[there], act):
                found.append((act, there))
        return found

    def first_spot(self):
        return self.codes.index(START)

    def cell_of(self, spot):
        return spot % self.size

    def marks_of(self, spot):
        return spot // self.size

    def is_over(self, spot):
        return self.codes[spot % self.size] == STAIRS

    # x, y, and whether the game is over there, as several calls tell it.
    def place(self, spot):
        cell = self.cell_of(spot)
        return [cell % self.width, cell // self.width, 1 if self.is_over(spot) else 0]

    def small_keys(self, marks):
        return count_bits(marks & self.code_bits[SMALL_KEY]) - count_bits(marks & self.code_bits[LOCK])

    # Of each thing 1 if it's marked, else 0; then so of A and of B being on.
    def mark_row(self, marks):
        return [1 if marks & bit else 0 for bit in BITS[:len(self.things) + 2]]

    def gate_is_open(self, code, marks):
        is_on = marks & self.lever_bits[code] != 0
        return is_on == (code in GATES_OPEN_IF_ON)

    def lock_lets_in(self, cell, marks):
        return marks & self.thing_bits[cell] != 0 or self.small_keys(marks) > 0

    # The marks behind a move to this cell, or CANNOT if the marks before it shut the cell.
    def marks_after(self, cell, marks):
        code = self.codes[cell]
        if code in KEYS:
            return marks | self.thing_bits[cell]
        if code == LOCK:
            return marks | self.thing_bits[cell] if self.lock_lets_in(cell, marks) else CANNOT
        if code in GATES:
            return marks if self.gate_is_open(code, marks) else CANNOT
        if code in KEY_OF_DOOR:
            return marks if marks & self.code_bits[KEY_OF_DOOR[code]] else CANNOT
        return marks

    def find_steps(self, spot):
        cell = spot % self.size
        marks = spot // self.size
        found = [CANNOT] * ACTS
        for act, there in self.exits[cell]:
            after = marks if self.is_free[there] else self.marks_after(there, marks)
            if after != CANNOT:
                found[act] = after * self.size + there
        if self.codes[cell] in LEVERS:
            found[PULL] = (marks ^ self.lever_bits[self.codes[cell]]) * self.size + cell
        return found

    # For each act in order the spot that it leads to from this one, or CANNOT.
    def steps(self, spot):
        if spot not in self.known_steps:
            self.known_steps[spot] = self.find_steps(spot)
        return self.known_steps[spot]
