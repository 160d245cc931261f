"""Holds the program against the plain player, on drawn levels and drawn calls."""

import itertools
import random
import unittest

from helper import HUGE, ask, do, edit, far, needed, open_codes, steps_of, try_acts
from plain_player import Game, Player

SEARCHES = (5, 7, 8, 9, 13)
WRONG = (-HUGE, -1, 5, 6, 10, 22, HUGE)


# One of these is drawn for a level: the codes of its cells, beside any from 4 to 21.
GROUNDS = ((0, 1, 1, 1, 1), (1, 1, 1, 4, 4, 5), (0, 1, 1, 1, 1, 4, 5, 12, 15), (1, 1, 6, 7, 8, 9, 10, 11, 4, 5))
GUARDS = (1, 5, 5, 5, 8, 8, 9, 10, 11, 15, 16, 17, 18, 19, 20, 21)


def guard_stairs(draw, codes, stairs, w):
    """Shuts the cells beside the stairs, for the most part, so that they aren't come to by the way."""
    x = stairs % w
    beside = [stairs - w, stairs + w] + [stairs - 1] * (x > 0) + [stairs + 1] * (x < w - 1)
    for cell in beside:
        if 0 <= cell < len(codes) and draw.randint(0, 5) > 0:
            codes[cell] = draw.choice(GUARDS)


def draw_level(draw, most):
    w = draw.randint(2, most)
    h = draw.randint(2, most)
    ground = draw.choice(GROUNDS)
    codes = [draw.choice(ground + (draw.randint(4, 21),)) for cell in range(w * h)]
    stairs = draw.randrange(w * (h - 1), w * h)
    guard_stairs(draw, codes, stairs, w)
    codes[stairs] = 3
    codes[draw.randrange(w)] = 2
    things = [cell for cell in range(w * h) if codes[cell] in (4, 5, 12, 13, 14)]
    for cell in draw.sample(things, max(0, len(things) - 6)):
        codes[cell] = draw.choice((0, 1, 1))
    return w, h, codes


def draw_act(draw, game):
    """Mostly one that can be done and doesn't end the game."""
    free = []
    if game.player is not None:
        behind = [game.player.play(game.here(), act) for act in range(5)]
        free = [act for act in range(5) if behind[act] is not None]
        free = [act for act in free if not game.player.over(behind[act])] or free
    if free and draw.randint(0, 6) > 0:
        return draw.choice(free)
    return draw.randint(0, 4)


def draw_try(draw, game):
    spot = None if game.player is None else game.here()
    acts = []
    for turn in range(draw.choice((0, 1, 3, 12, 12))):
        free = [act for act in range(5) if spot is not None and game.player.play(spot, act) is not None]
        acts.append(draw.choice(free * 6 + [draw.randint(0, 4)]))
        spot = None if spot is None else game.player.play(spot, acts[-1])
    return acts


def draw_call(draw, game, w, h):
    """A call of any kind, in the ranges but for a few."""
    number = draw.choice((1,) * 14 + (2, 2, 2, 4, 6, 10, 11, 11, 12, 14, 15, 15) + SEARCHES * 2)
    if number == 1:
        return do(draw_act(draw, game))
    if number == 6:
        return far(draw.randint(0, w), draw.randint(0, h - 1))
    if number == 10:
        return needed(draw.randint(0, 5))
    if number == 11:
        return try_acts(draw_try(draw, game))
    if number == 12:
        return edit(draw.randint(0, w - 1), draw.randint(0, h), draw.choice((0, 1, 4, 5, draw.randint(4, 21))))
    return [number]


def draw_rare_call(draw, w, h, most):
    wrong = draw.choice(WRONG)
    return draw.choice((
        [3], open_codes(*draw_level(draw, most)), open_codes(w, h, [1] * (w * h)),
        open_codes(w, h, [2, 3] + [4] * (w * h - 2)), open_codes(wrong, 2, [2, 3, 1, 1]),
        open_codes(2, 2, [2, 3, wrong, 1]), do(wrong), far(wrong, 0), far(0, wrong), needed(wrong),
        try_acts([1, 2, wrong]), edit(wrong, 0, 1), edit(0, wrong, 1), edit(0, 0, wrong)))


def draw_line(draw, most, length):
    """Calls and what the plain player answers to each."""
    game = Game()
    calls = []
    if draw.randint(0, 9) == 0:
        calls.append([draw.choice((2, 3, 4, 14, 15) + SEARCHES)])
    w, h, codes = draw_level(draw, most)
    calls.append(open_codes(w, h, codes))
    told = [game.answer(call) for call in calls]
    while len(calls) < length:
        if draw.randint(0, 19) == 0:
            calls.append(draw_rare_call(draw, w, h, most))
        else:
            calls.append(draw_call(draw, game, w, h))
        told.append(game.answer(calls[-1]))
        w, h = game.player.w, game.player.h
    return calls, told


class AgainstPlainPlay(unittest.TestCase):
    def hold(self, seed, most, length):
        calls, told = draw_line(random.Random(seed), most, length)
        for at, answer in enumerate(ask(*calls)):
            self.assertEqual(answer, told[at], (seed, at, calls[:at + 1]))

    def test_small_levels(self):
        for seed in range(400):
            self.hold(seed, 5, 60)

    def test_larger_levels(self):
        for seed in range(1000, 1040):
            self.hold(seed, 7, 60)

    def test_levels_of_up_to_the_greatest_size(self):
        for seed in range(3000, 3010):
            self.hold(seed, 10, 40)

    def test_the_calls_are_of_all_kinds(self):
        """Else the tests here would hold less than they seem to."""
        seen = {}
        for seed in range(200):
            for call, told in zip(*draw_line(random.Random(seed), 5, 60)):
                seen.setdefault(call[0], set()).add(told[0] if told[0] < 0 else tuple(told[:2]))
        self.assertEqual(sorted(seen), list(range(16)))
        for number in (8, 9, 10):
            self.assertLessEqual({(0, 0), (0, 1)}, seen[number])
        self.assertLessEqual({-1, -3, -4, -5, (0,)}, seen[12])
        self.assertLessEqual({(0, 0), (0, 1), (0, 2), (0, 3)}, seen[13])
        self.assertLessEqual({-1, (0, 0), (0, 12)}, seen[11])

    def test_all_lists_in_order(self):
        """Each list of up to five acts is tried, in order of length and then of acts."""
        for seed in range(2000, 2040):
            w, h, codes = draw_level(random.Random(seed), 3)
            player = Player(w, h, codes)
            first = {}
            for length in range(6):
                for acts in itertools.product(range(5), repeat=length):
                    behind = player.play_all(player.first(), acts)
                    if behind is not None:
                        first.setdefault(behind[:2], acts)
            cells = sorted(first)
            found = ask(open_codes(w, h, codes), *[far(x, y) for x, y in cells])
            for cell, answer in zip(cells, found[1:]):
                self.assertEqual(answer, steps_of(first[cell]), (seed, cell))


if __name__ == "__main__":
    unittest.main()
