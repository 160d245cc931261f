"""Holds the program against a slow player that is written straight from the document's words."""

import itertools
import random
import unittest

from helper import AGAIN, BACK, HERE, LEAST, REACH, ask, do, far, open_codes, steps_of

STEP = ((0, -1), (1, 0), (0, 1), (-1, 0))
COLOUR_OF_DOOR = {15: 12, 16: 13, 17: 14}


class Player:
    """Spots are (x, y, marked cells, A on, B on)."""

    def __init__(self, w, h, codes):
        self.w = w
        self.h = h
        self.code = {(x, y): codes[y * w + x] for y in range(h) for x in range(w)}
        self.things = [(x, y) for y in range(h) for x in range(w) if self.code[x, y] in (4, 5, 12, 13, 14)]
        self.start = next(cell for cell in self.code if self.code[cell] == 2)

    def first(self):
        return (*self.start, frozenset(), False, False)

    def over(self, spot):
        return self.code[spot[:2]] == 3

    def keys_in_hand(self, marked):
        codes = [self.code[cell] for cell in marked]
        return codes.count(4) - codes.count(5)

    def play(self, spot, act):
        """The spot behind the act, or None."""
        x, y, marked, a_on, b_on = spot
        code = self.code[x, y]
        if code == 3:
            return None
        if act == 4:
            if code == 6:
                return x, y, marked, not a_on, b_on
            if code == 7:
                return x, y, marked, a_on, not b_on
            return None
        if code >= 18 and code - 18 != act:
            return None
        to = (x + STEP[act][0], y + STEP[act][1])
        marked = self.let_in(to, act, marked, a_on, b_on)
        return None if marked is None else (*to, marked, a_on, b_on)

    def let_in(self, to, act, marked, a_on, b_on):
        code = self.code.get(to, 0)
        if code in (4, 12, 13, 14):
            return marked | {to}
        if code == 5:
            return marked | {to} if to in marked or self.keys_in_hand(marked) > 0 else None
        free = True
        if code == 0:
            free = False
        elif code in (8, 9, 10, 11):
            free = (a_on, not a_on, b_on, not b_on)[code - 8]
        elif code in COLOUR_OF_DOOR:
            free = COLOUR_OF_DOOR[code] in [self.code[cell] for cell in marked]
        elif code >= 18:
            free = (code - 18, act) not in ((0, 2), (1, 3), (2, 0), (3, 1))
        return marked if free else None

    def play_all(self, spot, acts):
        for act in acts:
            if spot is not None:
                spot = self.play(spot, act)
        return spot

    def least_lists(self, spot):
        """For each spot that can be reached the least of the lists of the fewest acts, compared as such."""
        found = {spot: ()}
        layer = {spot: ()}
        while layer:
            further = {}
            for before, acts in layer.items():
                for act in range(5):
                    behind = self.play(before, act)
                    if behind is None or behind in found:
                        continue
                    further[behind] = min(further.get(behind, acts + (act,)), acts + (act,))
            found.update(further)
            layer = further
        return found

    def told_here(self, spot, done):
        x, y, marked, a_on, b_on = spot
        row = [int(cell in marked) for cell in self.things] + [int(a_on), int(b_on)]
        return [0, x, y, int(self.over(spot)), done, self.keys_in_hand(marked), len(row)] + row

    def told_first(self, lists):
        if not lists:
            return [0, 0]
        return steps_of(min(lists, key=lambda acts: (len(acts), acts)))

    def told_reach(self, spots):
        return [0, len(spots), len({spot[:2] for spot in spots}), int(any(self.over(spot) for spot in spots))]


def draw_level(draw, most):
    w = draw.randint(2, most)
    h = draw.randint(2, most)
    codes = [draw.choice((0, 1, 1, 1, 1, draw.randint(4, 21), draw.randint(4, 21))) for cell in range(w * h)]
    start, stairs = draw.sample(range(w * h), 2)
    codes[start] = 2
    codes[stairs] = 3
    things = [cell for cell in range(w * h) if codes[cell] in (4, 5, 12, 13, 14)]
    for cell in things[6:]:
        codes[cell] = 1
    return w, h, codes


def drawn_calls(draw, player, w, h):
    """Calls and the answers that the player gives."""
    spots = [player.first()]
    for turn in range(19):
        choice = draw.randint(0, 11)
        if choice == 0:
            told = [-8]
            if len(spots) > 1:
                spots.pop()
                told = [0, *spots[-1][:2], int(player.over(spots[-1]))]
            yield BACK, told
        elif choice == 1 and turn % 5 == 0:
            spots = [player.first()]
            yield AGAIN, [0]
        else:
            act = draw.choice([one for one in range(5) if player.play(spots[-1], one)] or [0])
            if draw.randint(0, 4) == 0:
                act = draw.randint(0, 4)
            behind = player.play(spots[-1], act)
            told = [-7] if player.over(spots[-1]) else [-6]
            if behind is not None:
                spots.append(behind)
                told = [0, *behind[:2], int(player.over(behind))]
            yield do(act), told
        yield HERE, player.told_here(spots[-1], len(spots) - 1)
        if turn % 6 == 0:
            lists = player.least_lists(spots[-1])
            yield LEAST, player.told_first([acts for spot, acts in lists.items() if player.over(spot)])
            x = draw.randint(0, w - 1)
            y = draw.randint(0, h - 1)
            yield far(x, y), player.told_first([acts for spot, acts in lists.items() if spot[:2] == (x, y)])
            yield REACH, player.told_reach(lists)


class AgainstPlainPlay(unittest.TestCase):
    def hold(self, seed, most):
        draw = random.Random(seed)
        w, h, codes = draw_level(draw, most)
        player = Player(w, h, codes)
        both = list(drawn_calls(draw, player, w, h))
        found = ask(open_codes(w, h, codes), *[call for call, told in both])
        self.assertEqual(found[0], [0, len(player.things)], codes)
        for (call, told), answer in zip(both, found[1:]):
            self.assertEqual(answer, told, (seed, w, h, codes, call))

    def test_small_levels(self):
        for seed in range(300):
            self.hold(seed, 4)

    def test_larger_levels(self):
        for seed in range(1000, 1060):
            self.hold(seed, 7)

    def test_all_lists_in_order(self):
        """Each list of up to five acts is tried, in order of length and then of acts."""
        for seed in range(2000, 2040):
            w, h, codes = draw_level(random.Random(seed), 3)
            player = Player(w, h, codes)
            first = {}
            for length in range(6):
                for acts in itertools.product(range(5), repeat=length):
                    behind = player.play_all(player.first(), acts)
                    if behind is not None:
                        first.setdefault(behind[:2], acts)
            cells = sorted(first)
            found = ask(open_codes(w, h, codes), *[far(x, y) for x, y in cells])
            for cell, answer in zip(cells, found[1:]):
                self.assertEqual(answer, steps_of(first[cell]), (seed, cell))


if __name__ == "__main__":
    unittest.main()
