"""The calls on one object: what each takes, what it refuses, what it answers.

Each call is a function of the session, the call's numbers and its row (empty where it has none).
It gives back the numbers that are answered.
"""

from locklevels.board import CANNOT, Board, refusal_of
from locklevels.search import first_list, reached_spots

DONE = 0
OUTSIDE_RANGE = -1
NO_LEVEL = -2
NO_SUCH = -3
CANT_BE_DONE = -6
GAME_OVER = -7
NOTHING_DONE = -8

OPEN_LEVEL = 0


# The open level and the spots from the first one to the one here, one more than the acts that were done.
class Session:
    def __init__(self):
        self.board = None
        self.spots = []

    def begin(self, board):
        self.board = board
        self.spots = [board.first_spot()]

    def spot_here(self):
        return self.spots[-1]

    # x, y, and whether the game is over, as several calls tell it.
    def place(self):
        cell = self.board.cell_of(self.spot_here())
        over = 1 if self.board.is_over(self.spot_here()) else 0
        return [cell % self.board.width, cell // self.board.width, over]


def told_list(acts):
    if acts is None:
        return [DONE, 0]
    return [DONE, 1, len(acts)] + acts


def open_level(session, numbers, row):
    refusal = refusal_of(row)
    if refusal != 0:
        return [refusal]
    session.begin(Board(numbers[0], numbers[1], row))
    return [DONE, len(session.board.things)]


def do_act(session, numbers, row):
    if session.board.is_over(session.spot_here()):
        return [GAME_OVER]
    after = session.board.steps(session.spot_here())[numbers[0]]
    if after == CANNOT:
        return [CANT_BE_DONE]
    session.spots.append(after)
    return [DONE] + session.place()


def take_back(session, numbers, row):
    if len(session.spots) == 1:
        return [NOTHING_DONE]
    session.spots.pop()
    return [DONE] + session.place()


def start_again(session, numbers, row):
    session.begin(session.board)
    return [DONE]


def tell_here(session, numbers, row):
    marks = session.board.marks_of(session.spot_here())
    told = [DONE] + session.place()
    told.append(len(session.spots) - 1)
    told.append(session.board.small_keys(marks))
    mark_row = session.board.mark_row(marks)
    return told + [len(mark_row)] + mark_row


def least_list(session, numbers, row):
    board = session.board
    return told_list(first_list(board, session.spot_here(), lambda spot: board.is_over(spot)))


def far_list(session, numbers, row):
    board = session.board
    if numbers[0] >= board.width or numbers[1] >= board.height:
        return [NO_SUCH]
    cell = numbers[1] * board.width + numbers[0]
    return told_list(first_list(board, session.spot_here(), lambda spot: board.cell_of(spot) == cell))


def tell_reach(session, numbers, row):
    board = session.board
    spots = reached_spots(board, session.spot_here())
    cells = len(set([board.cell_of(spot) for spot in spots]))
    stairs = 1 if any([board.is_over(spot) for spot in spots]) else 0
    return [DONE, len(spots), cells, stairs]


# By the call's number: its function, the range of each of its numbers, the range of its row's numbers
# (empty if it has no row).
CALLS = (
    (open_level, ((2, 10), (2, 10)), (0, 21)),
    (do_act, ((0, 4),), ()),
    (take_back, (), ()),
    (start_again, (), ()),
    (tell_here, (), ()),
    (least_list, (), ()),
    (far_list, ((0, 9), (0, 9)), ()),
    (tell_reach, (), ()),
)


def count_numbers(call):
    return len(CALLS[call][1])


def has_row(call):
    return len(CALLS[call][2]) > 0


def is_within(number, limits):
    return limits[0] <= number <= limits[1]


def is_outside(call, numbers, row):
    for number, limits in zip(numbers, CALLS[call][1]):
        if not is_within(number, limits):
            return True
    for number in row:
        if not is_within(number, CALLS[call][2]):
            return True
    return call == OPEN_LEVEL and len(row) != numbers[0] * numbers[1]


def answer(session, call, numbers, row):
    if is_outside(call, numbers, row):
        return [OUTSIDE_RANGE]
    if call != OPEN_LEVEL and session.board is None:
        return [NO_LEVEL]
    return CALLS[call][0](session, numbers, row)
