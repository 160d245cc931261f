"""The calls on one object: what each takes, what it refuses, what it answers.

Each call is a function of the session, the call's numbers and its row (empty where it has none).
It gives back the numbers that are answered.
"""

from locklevels.board import CANNOT, Board, changed_codes, codes_without, refusal_of
from locklevels.search import count_ways, first_list, hopeful_spots, list_to_stairs, reached_spots

DONE = 0
OUTSIDE_RANGE = -1
NO_LEVEL = -2
NO_SUCH = -3
CANT_BE_DONE = -6
GAME_OVER = -7
NOTHING_DONE = -8

OPEN_LEVEL = 0


# The open level and the spots from the first one to the one here, one more than the acts that were done.
class Session:
    def __init__(self):
        self.board = None
        self.spots = []
        self.hopeful = None

    def begin(self, board):
        self.board = board
        self.hopeful = None
        self.restart()

    def restart(self):
        self.spots = [self.board.first_spot()]

    def spot_here(self):
        return self.spots[-1]

    # Found once for a level, from its first spot: whatever is done, one stays within reach of that.
    def is_spoilt(self, spot):
        if self.hopeful is None:
            self.hopeful = hopeful_spots(self.board, self.board.first_spot())
        return spot not in self.hopeful


def told_row(row):
    return [len(row)] + row


def told_list(acts):
    if acts is None:
        return [DONE, 0]
    return [DONE, 1] + told_row(acts)


# Opens the level if it is right. Gives back DONE, or the refusal that it meets.
def begin_level(session, width, height, codes):
    refusal = refusal_of(codes)
    if refusal != 0:
        return refusal
    session.begin(Board(width, height, codes))
    return DONE


def open_level(session, numbers, row):
    begun = begin_level(session, numbers[0], numbers[1], row)
    if begun != DONE:
        return [begun]
    return [DONE, len(session.board.things)]


def do_act(session, numbers, row):
    if session.board.is_over(session.spot_here()):
        return [GAME_OVER]
    after = session.board.steps(session.spot_here())[numbers[0]]
    if after == CANNOT:
        return [CANT_BE_DONE]
    session.spots.append(after)
    return [DONE] + session.board.place(after)


def take_back(session, numbers, row):
    if len(session.spots) == 1:
        return [NOTHING_DONE]
    session.spots.pop()
    return [DONE] + session.board.place(session.spot_here())


def start_again(session, numbers, row):
    session.restart()
    return [DONE]


def tell_here(session, numbers, row):
    board = session.board
    marks = board.marks_of(session.spot_here())
    told = [DONE] + board.place(session.spot_here())
    told.append(len(session.spots) - 1)
    told.append(board.small_keys(marks))
    return told + told_row(board.mark_row(marks))


def least_list(session, numbers, row):
    return told_list(list_to_stairs(session.board, session.spot_here()))


def far_list(session, numbers, row):
    board = session.board
    cell = board.cell_at(numbers[0], numbers[1])
    if cell == CANNOT:
        return [NO_SUCH]
    return told_list(first_list(board, session.spot_here(), lambda spot: board.cell_of(spot) == cell))


def tell_reach(session, numbers, row):
    board = session.board
    spots = reached_spots(board, session.spot_here())
    cells = len(set([board.cell_of(spot) for spot in spots]))
    stairs = 1 if any([board.is_over(spot) for spot in spots]) else 0
    return [DONE, len(spots), cells, stairs]


def tell_spoilt(session, numbers, row):
    return [DONE, 1 if session.is_spoilt(session.spot_here()) else 0]


def spoil_list(session, numbers, row):
    return told_list(first_list(session.board, session.spot_here(), lambda spot: session.is_spoilt(spot)))


def tell_needed(session, numbers, row):
    board = session.board
    if numbers[0] >= len(board.things):
        return [NO_SUCH]
    codes = codes_without(board.codes, board.things[numbers[0]])
    without = Board(board.width, board.height, codes)
    acts = list_to_stairs(without, without.first_spot())
    return [DONE, 1 if acts is None else 0]


def try_acts(session, numbers, row):
    spot = session.spot_here()
    done = 0
    for act in row:
        after = session.board.steps(spot)[act]
        if after == CANNOT:
            break
        spot = after
        done += 1
    return [DONE, done] + session.board.place(spot)


def edit_cell(session, numbers, row):
    board = session.board
    cell = board.cell_at(numbers[0], numbers[1])
    if cell == CANNOT:
        return [NO_SUCH]
    codes = changed_codes(board.codes, cell, numbers[2])
    return [begin_level(session, board.width, board.height, codes)]


def tell_ways(session, numbers, row):
    return [DONE, count_ways(session.board, session.spot_here())]


def tell_things(session, numbers, row):
    board = session.board
    told = []
    for cell in board.things:
        told.extend([cell % board.width, cell // board.width, board.codes[cell]])
    return [DONE] + told_row(told)


def tell_state(session, numbers, row):
    board = session.board
    back = []
    for spot in reversed(session.spots):
        back.extend([board.cell_of(spot), board.marks_of(spot)])
    return [DONE, board.width, board.height] + told_row(board.codes) + told_row(back)


# By the call's number: its function, the range of each of its numbers, the range of its row's numbers
# (empty if it has no row).
CALLS = (
    (open_level, ((2, 10), (2, 10)), (0, 21)),
    (do_act, ((0, 4),), ()),
    (take_back, (), ()),
    (start_again, (), ()),
    (tell_here, (), ()),
    (least_list, (), ()),
    (far_list, ((0, 9), (0, 9)), ()),
    (tell_reach, (), ()),
    (tell_spoilt, (), ()),
    (spoil_list, (), ()),
    (tell_needed, ((0, 5),), ()),
    (try_acts, (), (0, 4)),
    (edit_cell, ((0, 9), (0, 9), (0, 21)), ()),
    (tell_ways, (), ()),
    (tell_things, (), ()),
    (tell_state, (), ()),
)


def count_numbers(call):
    return len(CALLS[call][1])


def has_row(call):
    return len(CALLS[call][2]) > 0


def is_within(number, limits):
    return limits[0] <= number <= limits[1]


def is_outside(call, numbers, row):
    for number, limits in zip(numbers, CALLS[call][1]):
        if not is_within(number, limits):
            return True
    for number in row:
        if not is_within(number, CALLS[call][2]):
            return True
    return call == OPEN_LEVEL and len(row) != numbers[0] * numbers[1]


def answer(session, call, numbers, row):
    if is_outside(call, numbers, row):
        return [OUTSIDE_RANGE]
    if call != OPEN_LEVEL and session.board is None:
        return [NO_LEVEL]
    return CALLS[call][0](session, numbers, row)
