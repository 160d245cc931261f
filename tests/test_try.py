import unittest

from helper import (
    BACK, DOWN, HERE, HUGE, LEAST, LEFT, PULL, RIGHT, STATE, UP, after, ask, do, last, level, try_acts)


class Try(unittest.TestCase):
    def test_no_acts(self):
        self.assertEqual(last(level("S.", "E."), try_acts([])), [0, 0, 0, 0, 0])
        self.assertEqual(after(("S..", "E.."), [RIGHT, DOWN], try_acts([])), [[0, 0, 1, 1, 0]])

    def test_all_can_be_done(self):
        self.assertEqual(last(level("S..", "E.."), try_acts([RIGHT, RIGHT, DOWN])), [0, 3, 2, 1, 0])
        self.assertEqual(last(level("S.E", "###"), try_acts([RIGHT, RIGHT])), [0, 2, 2, 0, 1])

    def test_stopped_by_an_act_that_cannot_be_done(self):
        self.assertEqual(last(level("S..", "E.."), try_acts([RIGHT, UP, RIGHT])), [0, 1, 1, 0, 0])
        self.assertEqual(last(level("S..", "E.."), try_acts([UP, RIGHT])), [0, 0, 0, 0, 0])
        self.assertEqual(last(level("S..", "E.."), try_acts([RIGHT, PULL, RIGHT])), [0, 1, 1, 0, 0])
        self.assertEqual(last(level("SmE", "..."), try_acts([DOWN, RIGHT, UP])), [0, 2, 1, 1, 0])

    def test_stopped_by_stairs(self):
        self.assertEqual(last(level("SE.", "###"), try_acts([RIGHT, RIGHT])), [0, 1, 1, 0, 1])
        self.assertEqual(last(level("SE.", "###"), try_acts([RIGHT, LEFT, RIGHT])), [0, 1, 1, 0, 1])

    def test_from_stairs(self):
        self.assertEqual(after(("SE", "##"), [RIGHT], try_acts([LEFT]), try_acts([])), [[0, 0, 1, 0, 1]] * 2)

    def test_marks_go_along(self):
        self.assertEqual(last(level("SkoE", "####"), try_acts([RIGHT] * 3)), [0, 3, 3, 0, 1])
        self.assertEqual(last(level("SkooE", "#####"), try_acts([RIGHT] * 4)), [0, 2, 2, 0, 0])
        self.assertEqual(last(level("SrRE", "####"), try_acts([RIGHT] * 3)), [0, 3, 3, 0, 1])
        self.assertEqual(last(level("SAmE", "####"), try_acts([RIGHT, PULL, RIGHT, RIGHT])), [0, 4, 3, 0, 1])
        self.assertEqual(last(level("SAmE", "####"), try_acts([RIGHT, PULL, PULL, RIGHT])), [0, 3, 1, 0, 0])
        self.assertEqual(last(level("S>.E", "####"), try_acts([RIGHT, RIGHT, LEFT])), [0, 2, 2, 0, 0])

    def test_from_here(self):
        found = after(("SkoE", "####"), [RIGHT], try_acts([RIGHT, RIGHT]), BACK, try_acts([LEFT]))
        self.assertEqual(found, [[0, 2, 3, 0, 1], [0, 0, 0, 0], [0, 0, 0, 0, 0]])

    def test_200_acts(self):
        self.assertEqual(last(level("S.", "E."), try_acts([RIGHT, LEFT] * 100)), [0, 200, 0, 0, 0])
        self.assertEqual(last(level("S.", "E."), try_acts([RIGHT, LEFT] * 99 + [RIGHT, UP])), [0, 199, 1, 0, 0])
        self.assertEqual(last(level("S.", "E."), try_acts([RIGHT, LEFT] * 99 + [DOWN, UP])), [0, 199, 0, 1, 1])
        found = after(("SAmE", "####"), [RIGHT], try_acts([PULL] * 199 + [RIGHT]), try_acts([PULL] * 198 + [RIGHT]))
        self.assertEqual(found, [[0, 200, 2, 0, 0], [0, 198, 1, 0, 0]])

    def test_changes_nothing(self):
        found = after(("SkoAE", "#####"), [RIGHT], STATE, HERE, LEAST, try_acts([RIGHT, RIGHT, PULL, RIGHT]),
                      STATE, HERE, LEAST, try_acts([UP]), STATE, do(RIGHT), BACK, BACK, BACK)
        self.assertEqual(found[3], [0, 4, 4, 0, 1])
        self.assertEqual(found[4:7], found[:3])
        self.assertEqual(found[8], found[0])
        self.assertEqual(found[9:], [[0, 2, 0, 0], [0, 1, 0, 0], [0, 0, 0, 0], [-8]])

    def test_an_act_outside(self):
        for wrong in (-HUGE, -1, 5, 6, HUGE):
            for acts in ([wrong], [RIGHT, wrong], [wrong, RIGHT], [UP, wrong], [UP, RIGHT, wrong, RIGHT],
                         [RIGHT, RIGHT, wrong], [RIGHT] * 199 + [wrong]):
                found = ask(level("S.E", "###"), try_acts(acts), HERE)
                self.assertEqual(found[1:], [[-1], [0, 0, 0, 0, 0, 0, 2, 0, 0]], acts)

    def test_refusals_in_order(self):
        found = ask(try_acts([]), try_acts([RIGHT]), try_acts([RIGHT, 5]), level("SE", "##"), try_acts([RIGHT]))
        self.assertEqual(found, [[-2], [-2], [-1], [0, 0], [0, 1, 1, 0, 1]])

    def test_calls_behind_a_refused_row_are_still_read(self):
        found = ask(try_acts([9] * 200), level("SE", "##"), try_acts([9, 0, 4]), HERE)
        self.assertEqual(found, [[-1], [0, 0], [-1], [0, 0, 0, 0, 0, 0, 2, 0, 0]])


if __name__ == "__main__":
    unittest.main()
