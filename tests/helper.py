"""What all tests share: levels drawn as rows of signs, calls as lists, answers taken apart."""

from locklevels.level import answers

# The sign at place k stands for the code k.
SIGNS = "#.SEkoABmnpqrgbRGU^>v<"

UP, RIGHT, DOWN, LEFT, PULL = range(5)

BACK = [2]
AGAIN = [3]
HERE = [4]
LEAST = [5]
REACH = [7]
SPOILT = [8]
SPOIL = [9]
WAYS = [13]
THINGS = [14]
STATE = [15]

# The greatest number that is handed in.
HUGE = 10 ** 18


def codes_of(*rows):
    return [SIGNS.index(sign) for sign in "".join(rows)]


def open_codes(w, h, codes):
    return [0, w, h, len(codes)] + codes


def level(*rows):
    return open_codes(len(rows[0]), len(rows), codes_of(*rows))


def do(act):
    return [1, act]


def far(x, y):
    return [6, x, y]


def needed(thing):
    return [10, thing]


def try_acts(acts):
    return [11, len(acts)] + list(acts)


def edit(x, y, code):
    return [12, x, y, code]


def one_list(calls):
    return [number for call in calls for number in call]


def split(told):
    """The answers as one list for each call."""
    found = []
    at = 0
    while at < len(told):
        end = at + 1 + told[at]
        assert end <= len(told), told
        found.append(told[at + 1:end])
        at = end
    return found


def ask(*calls):
    found = split(answers(one_list(calls)))
    assert len(found) == len(calls), found
    return found


def last(*calls):
    return ask(*calls)[-1]


def after(rows, acts, *calls):
    """Opens the level, does the acts, each of which must be done, and answers the calls behind them."""
    found = ask(level(*rows), *[do(act) for act in acts], *calls)
    done = found[:len(acts) + 1]
    assert all(answer[0] == 0 for answer in done), done
    return found[len(acts) + 1:]


def steps_of(first_list):
    """The answer that tells this list."""
    return [0, 1, len(first_list)] + list(first_list)
