"""Lines in which all calls are mixed, on levels of the greatest size."""

import math
import unittest

from helper import (
    AGAIN, BACK, DOWN, HERE, LEAST, LEFT, PULL, REACH, RIGHT, SPOIL, SPOILT, STATE, THINGS, UP, WAYS, ask, do, edit,
    far, level, needed, steps_of, try_acts)
from plain_player import Game

# Six things, both levers on the way; who goes down the drop in the eighth row comes to no stairs any more.
GREATEST = (
    "S.k......A",
    "..........",
    "####m####o",
    "r........k",
    "..........",
    "B.........",
    "##p###R##o",
    "g.........",
    "#v######G#",
    "#.######E#")
# From the start by lever A and its gate, the red key, lever B and its gate, the green key and its door.
TO_STAIRS = (
    [RIGHT] * 9 + [PULL, DOWN] + [LEFT] * 5 + [DOWN] * 2 + [LEFT] * 4 + [DOWN] * 2 + [PULL]
    + [RIGHT] * 2 + [DOWN] * 2 + [LEFT] * 2 + [RIGHT] * 8 + [DOWN] * 2)
SEARCHES = [LEAST, REACH, SPOILT, SPOIL, WAYS, far(9, 9), far(8, 9), far(1, 9)] + [needed(n) for n in range(6)]


def plain_answers(calls):
    game = Game()
    return [game.answer(call) for call in calls]


class Mixed(unittest.TestCase):
    def hold(self, calls):
        self.assertLessEqual(len(calls), 60)
        told = plain_answers(calls)
        for at, answer in enumerate(ask(*calls)):
            self.assertEqual(answer, told[at], (at, calls[at]))
        return told

    def test_all_sixteen_on_the_greatest_level(self):
        acts = [do(act) for act in TO_STAIRS]
        calls = [STATE, level(*GREATEST), try_acts(TO_STAIRS), SPOILT, THINGS, *acts[:11], HERE, LEAST, *acts[11:22],
                 WAYS, BACK, acts[21], SPOIL, STATE, needed(5), far(1, 9), *acts[22:27], edit(0, 0, 1), REACH, LEAST,
                 do(DOWN), BACK, HERE, edit(4, 2, 0), LEAST, do(RIGHT), do(PULL), AGAIN, STATE]
        self.assertEqual({call[0] for call in calls}, set(range(16)))
        told = self.hold(calls)
        self.assertEqual(told[2], [0, len(TO_STAIRS), 8, 9, 1])

    def test_a_search_in_each_of_59_calls(self):
        calls = [level(*GREATEST), *SEARCHES]
        told = plain_answers(calls)
        times = 59 // len(SEARCHES) + 1
        found = ask(*(calls + SEARCHES * times)[:60])
        self.assertEqual(len(found), 60)
        self.assertEqual(found, (told + told[1:] * times)[:60])

    def test_a_search_behind_each_edit(self):
        calls = [level(*GREATEST)]
        for turn in range(29):
            calls += [edit(turn % 3, 4, turn % 2), SEARCHES[turn % len(SEARCHES)]]
        self.hold(calls)

    def test_all_the_way_to_stairs_and_back(self):
        self.assertEqual(len(TO_STAIRS), 41)
        calls = [level(*GREATEST), *[do(act) for act in TO_STAIRS], SPOILT, WAYS, LEAST, SPOIL, REACH, do(UP), STATE]
        found = ask(*calls, *[BACK] * 11)
        self.assertEqual(found[41], [0, 8, 9, 1])
        self.assertEqual(found[42:48], [[0, 0], [0, 1], [0, 1, 0], [0, 0], [0, 1, 1, 1], [-7]])
        self.assertEqual(found[48][:4], [0, 10, 10, 100])
        # Marked are the first small key, the red key and the green one; A and B are on.
        self.assertEqual(found[48][104:107], [84, 98, 1 + 4 + 32 + 64 + 128])
        self.assertEqual(found[49:51], [[0, 8, 8, 0], [0, 8, 7, 0]])

    def test_open_floor_with_six_keys_and_both_levers(self):
        # Nearly all of the spots there can be: marks of six keys and two levers on a hundred cells.
        rows = ["S........."] + ["." * 10] * 2 + ["rrrgbk...."] + ["." * 10] + ["A........B"] + ["." * 10] * 2
        rows += ["........##", "........#E"]
        found = ask(level(*rows), *[REACH, SPOILT, SPOIL, LEAST, WAYS, needed(3), far(9, 9), far(9, 7)] * 7)
        self.assertEqual(found[1:9], [
            [0, ((96 - 6) * 64 + 6 * 32) * 4, 96, 0], [0, 1], [0, 1, 0], [0, 0], [0, 0], [0, 1], [0, 0],
            steps_of([RIGHT] * 9 + [DOWN] * 7)])
        self.assertEqual(found[1:], found[1:9] * 7)
        rows[9] = "........UE"
        found = ask(level(*rows), *[REACH, SPOILT, SPOIL, WAYS, needed(4), far(9, 9)] * 9)
        # To the blue key, on to the cell before the door, and through it.
        through = [RIGHT] * 4 + [DOWN] * 3
        ways = math.comb(7, 3) * math.comb(9, 3)
        self.assertEqual(found[2:6], [[0, 0], [0, 0], [0, ways], [0, 1]])
        self.assertEqual(found[6][:10], [0, 1, 18] + through)
        self.assertEqual(found[1:], found[1:7] * 9)


if __name__ == "__main__":
    unittest.main()
