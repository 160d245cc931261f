import unittest

from helper import (
    AGAIN, BACK, DOWN, HERE, LEAST, LEFT, PULL, RIGHT, STATE, THINGS, UP, after, ask, do, edit, last, level,
    open_codes)


def told_state(w, h, codes, back):
    return [0, w, h, len(codes)] + codes + [len(back)] + back


class Things(unittest.TestCase):
    def test_none(self):
        self.assertEqual(last(level("S.", "E."), THINGS), [0, 0])
        self.assertEqual(last(level("SABmnpq", "ERGU^>v"), THINGS), [0, 0])

    def test_each_code(self):
        for code in (4, 5, 12, 13, 14):
            self.assertEqual(last(open_codes(2, 2, [2, 3, 1, code]), THINGS), [0, 3, 1, 1, code])

    def test_several_in_order(self):
        found = last(level(".g.", "kSo", "E.r", "b.."), THINGS)
        self.assertEqual(found, [0, 15, 1, 0, 13, 0, 1, 4, 2, 1, 5, 2, 2, 12, 0, 3, 14])

    def test_six_in_the_corners_of_the_greatest_level(self):
        rows = ["k........o", "S........."] + ["." * 10] * 6 + ["E........r", "g...b....k"]
        self.assertEqual(last(level(*rows), THINGS), [
            0, 18, 0, 0, 4, 9, 0, 5, 9, 8, 12, 0, 9, 13, 4, 9, 14, 9, 9, 4])

    def test_marks_do_not_matter(self):
        found = after(("SkoE", "####"), [], *[THINGS, do(RIGHT)] * 3, THINGS)
        self.assertEqual(found[0::2], [[0, 6, 1, 0, 4, 2, 0, 5]] * 4)

    def test_after_an_edit(self):
        found = ask(level("S.oE", "...."), edit(1, 1, 12), THINGS, edit(1, 0, 13), THINGS, edit(2, 0, 1), THINGS,
                    edit(2, 0, 2), THINGS)
        self.assertEqual(found[2::2], [
            [0, 6, 2, 0, 5, 1, 1, 12], [0, 9, 1, 0, 13, 2, 0, 5, 1, 1, 12], [0, 6, 1, 0, 13, 1, 1, 12],
            [0, 6, 1, 0, 13, 1, 1, 12]])

    def test_refused(self):
        self.assertEqual(ask(THINGS, level("S.", ".."), THINGS), [[-2], [-4], [-2]])


class State(unittest.TestCase):
    def test_at_the_beginning(self):
        self.assertEqual(last(level("..E", "S.k"), STATE), [0, 3, 2, 6, 1, 1, 3, 2, 1, 4, 2, 3, 0])
        self.assertEqual(last(level("S.", "..", ".E"), STATE), [0, 2, 3, 6, 2, 1, 1, 1, 1, 3, 2, 0, 0])

    def test_the_greatest_size(self):
        codes = [place % 22 for place in range(44)] + [1] * 56
        for place in range(44):
            if codes[place] in (2, 3, 4, 5, 12, 13, 14):
                codes[place] = 1
        codes[57] = 3
        codes[98] = 2
        found = ask(open_codes(10, 10, codes), do(RIGHT), STATE)
        self.assertEqual(found[2], told_state(10, 10, codes, [99, 0, 98, 0]))

    def test_after_acts_from_here_back_to_the_first(self):
        found = after(("S..", "E.."), [RIGHT, RIGHT, DOWN, LEFT], STATE)
        self.assertEqual(found, [told_state(3, 2, [2, 1, 1, 3, 1, 1], [4, 0, 5, 0, 2, 0, 1, 0, 0, 0])])

    def test_at_stairs(self):
        self.assertEqual(after(("SE", "##"), [RIGHT], STATE), [told_state(2, 2, [2, 3, 0, 0], [1, 0, 0, 0])])

    def test_marks_of_things_by_their_numbers(self):
        rows = ("gSr", "kob", "E..")
        codes = [13, 2, 12, 4, 5, 14, 3, 1, 1]
        found = after(rows, [RIGHT, LEFT, LEFT, DOWN, RIGHT, RIGHT], STATE)
        self.assertEqual(found, [told_state(
            3, 3, codes, [5, 31, 4, 15, 3, 7, 0, 3, 1, 2, 2, 2, 1, 0])])

    def test_levers_without_things(self):
        codes = [2, 6, 7, 3, 0, 0, 0, 0]
        found = after(("SABE", "####"), [RIGHT, PULL, RIGHT, PULL, LEFT, PULL], STATE)
        self.assertEqual(found, [told_state(
            4, 2, codes, [1, 2, 1, 3, 2, 3, 2, 1, 1, 1, 1, 0, 0, 0])])

    def test_levers_with_one_thing(self):
        codes = [2, 4, 6, 7, 3, 0, 0, 0, 0, 0]
        found = after(("SkABE", "#####"), [RIGHT, RIGHT, PULL, RIGHT, PULL], STATE)
        self.assertEqual(found, [told_state(5, 2, codes, [3, 7, 3, 3, 2, 3, 2, 1, 1, 1, 0, 0])])

    def test_levers_with_six_things(self):
        codes = [2, 4, 4, 4, 12, 13, 6, 7, 3, 0, 5, 0, 0, 0, 0, 0]
        acts = [RIGHT, RIGHT, DOWN, UP, RIGHT, RIGHT, RIGHT, RIGHT, PULL, RIGHT, PULL, LEFT, PULL]
        found = after(("SkkkrgAB", "E#o#####"), acts, STATE)
        self.assertEqual(found, [told_state(8, 2, codes, [
            6, 191, 6, 255, 7, 255, 7, 127, 6, 127, 6, 63, 5, 63, 4, 47, 3, 39, 2, 35, 10, 35, 2, 3, 1, 1, 0, 0])])

    def test_after_back(self):
        codes = [2, 4, 5, 3, 0, 0, 0, 0]
        found = after(("SkoE", "####"), [RIGHT, RIGHT, RIGHT], *[BACK, STATE] * 3, BACK, STATE)
        self.assertEqual(found[1::2], [
            told_state(4, 2, codes, [2, 3, 1, 1, 0, 0]), told_state(4, 2, codes, [1, 1, 0, 0]),
            told_state(4, 2, codes, [0, 0]), told_state(4, 2, codes, [0, 0])])

    def test_after_again(self):
        found = after(("SkAE", "####"), [RIGHT, RIGHT, PULL], AGAIN, STATE, do(RIGHT), STATE)
        codes = [2, 4, 6, 3, 0, 0, 0, 0]
        self.assertEqual(found[1::2], [told_state(4, 2, codes, [0, 0]), told_state(4, 2, codes, [1, 1, 0, 0])])

    def test_after_open(self):
        found = after(("SkAE", "####"), [RIGHT], level("ES", ".r"), STATE)
        self.assertEqual(found[1], told_state(2, 2, [3, 2, 1, 12], [1, 0]))

    def test_after_edit(self):
        found = after(("SkAE", "####"), [RIGHT], edit(1, 1, 12), STATE, do(RIGHT), do(DOWN), STATE)
        codes = [2, 4, 6, 3, 0, 12, 0, 0]
        self.assertEqual(found[1], told_state(4, 2, codes, [0, 0]))
        self.assertEqual(found[4], told_state(4, 2, codes, [5, 3, 1, 1, 0, 0]))

    def test_a_refused_act_is_not_told(self):
        found = after(("S.E", "###"), [RIGHT], do(UP), do(5), STATE)
        self.assertEqual(found[2], told_state(3, 2, [2, 1, 3, 0, 0, 0], [1, 0, 0, 0]))

    def test_fifty_eight_acts(self):
        found = ask(level("S.", "E."), *[do(RIGHT), do(LEFT)] * 29, STATE)
        self.assertEqual(found[59], told_state(2, 2, [2, 1, 3, 1], [0, 0] + [1, 0, 0, 0] * 29))

    def test_changes_nothing(self):
        found = after(("SkoE", "####"), [RIGHT], STATE, HERE, LEAST, STATE, HERE, LEAST)
        self.assertEqual(found[:3], found[3:])

    def test_refused(self):
        self.assertEqual(ask(STATE, level("S.", ".."), STATE), [[-2], [-4], [-2]])


if __name__ == "__main__":
    unittest.main()
