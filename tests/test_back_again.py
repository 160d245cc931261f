import unittest

from helper import AGAIN, BACK, DOWN, HERE, LEAST, LEFT, PULL, REACH, RIGHT, UP, after, ask, do, level

MIXED = ("SkoAmE", "...r..")


class Back(unittest.TestCase):
    def test_through_several_acts(self):
        found = after(MIXED, [RIGHT, DOWN, RIGHT], BACK, BACK, BACK, BACK)
        self.assertEqual(found, [[0, 1, 1, 0], [0, 1, 0, 0], [0, 0, 0, 0], [-8]])

    def test_marks_and_levers_come_back(self):
        acts = [RIGHT, RIGHT, RIGHT, PULL, DOWN]
        found = after(MIXED, acts, *[HERE, BACK] * 5, HERE)
        self.assertEqual(found[0::2], [
            [0, 3, 1, 0, 5, 0, 5, 1, 1, 1, 1, 0],
            [0, 3, 0, 0, 4, 0, 5, 1, 1, 0, 1, 0],
            [0, 3, 0, 0, 3, 0, 5, 1, 1, 0, 0, 0],
            [0, 2, 0, 0, 2, 0, 5, 1, 1, 0, 0, 0],
            [0, 1, 0, 0, 1, 1, 5, 1, 0, 0, 0, 0],
            [0, 0, 0, 0, 0, 0, 5, 0, 0, 0, 0, 0]])
        self.assertEqual(found[1::2], [
            [0, 3, 0, 0], [0, 3, 0, 0], [0, 2, 0, 0], [0, 1, 0, 0], [0, 0, 0, 0]])

    def test_a_pull_turned_off_comes_back_on(self):
        found = after(("SBE", "###"), [RIGHT, PULL, PULL], BACK, HERE, BACK, HERE)
        self.assertEqual([found[1][7:], found[3][7:]], [[0, 1], [0, 0]])

    def test_from_stairs(self):
        found = after(("S.E", "###"), [RIGHT, RIGHT], do(LEFT), BACK, do(LEFT), HERE)
        self.assertEqual(found, [[-7], [0, 1, 0, 0], [0, 0, 0, 0], [0, 0, 0, 0, 2, 0, 2, 0, 0]])

    def test_up_a_drop(self):
        self.assertEqual(after(("S>.E", "####"), [RIGHT, RIGHT], BACK, BACK), [[0, 1, 0, 0], [0, 0, 0, 0]])

    def test_other_acts_behind_it(self):
        found = after(("S.E", "..."), [RIGHT, DOWN], BACK, do(LEFT), do(DOWN), BACK, BACK, BACK, BACK)
        self.assertEqual(found, [
            [0, 1, 0, 0], [0, 0, 0, 0], [0, 0, 1, 0], [0, 0, 0, 0], [0, 1, 0, 0], [0, 0, 0, 0], [-8]])

    def test_a_refused_act_is_not_taken_back(self):
        self.assertEqual(after(("S.E", "###"), [RIGHT], do(UP), BACK, BACK), [[-6], [0, 0, 0, 0], [-8]])

    def test_many_acts(self):
        found = after(("S.", "E."), [RIGHT, LEFT] * 14, *[BACK] * 29)
        self.assertEqual(found[:28], [[0, 1, 0, 0], [0, 0, 0, 0]] * 14)
        self.assertEqual(found[28], [-8])

    def test_refused(self):
        self.assertEqual(ask(BACK, level("S.", "E."), BACK, BACK), [[-2], [0, 0], [-8], [-8]])


class Again(unittest.TestCase):
    def test_all_is_as_at_first(self):
        acts = [RIGHT, RIGHT, RIGHT, PULL, DOWN]
        found = after(MIXED, acts, AGAIN, HERE, BACK, LEAST, REACH)
        fresh = after(MIXED, [], HERE, BACK, LEAST, REACH)
        self.assertEqual(found[0], [0])
        self.assertEqual(found[1], [0, 0, 0, 0, 0, 0, 5, 0, 0, 0, 0, 0])
        self.assertEqual(found[1:], fresh)

    def test_lever_b(self):
        found = after(("SBE", "###"), [RIGHT, PULL], AGAIN, HERE)
        self.assertEqual(found, [[0], [0, 0, 0, 0, 0, 0, 2, 0, 0]])

    def test_from_stairs(self):
        found = after(("SE", "##"), [RIGHT], AGAIN, do(RIGHT), BACK, BACK)
        self.assertEqual(found, [[0], [0, 1, 0, 1], [0, 0, 0, 0], [-8]])

    def test_with_no_acts_done(self):
        self.assertEqual(after(("SE", "##"), [], AGAIN, AGAIN, BACK), [[0], [0], [-8]])

    def test_what_was_shut_is_shut_again(self):
        found = after(("SkoE", "####"), [RIGHT, RIGHT], AGAIN, do(RIGHT), do(RIGHT), HERE)
        self.assertEqual(found[3], [0, 2, 0, 0, 2, 0, 4, 1, 1, 0, 0])
        found = after(("rSRE", "####"), [LEFT, RIGHT, RIGHT], AGAIN, do(RIGHT))
        self.assertEqual(found, [[0], [-6]])

    def test_refused(self):
        self.assertEqual(ask(AGAIN, HERE), [[-2], [-2]])


if __name__ == "__main__":
    unittest.main()
