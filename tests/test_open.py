import unittest

from helper import BACK, HERE, HUGE, LEAST, RIGHT, ask, do, far, last, level, open_codes

SMALL = [2, 3, 0, 0]


class Right(unittest.TestCase):
    def test_least_size(self):
        self.assertEqual(ask(open_codes(2, 2, SMALL), HERE), [[0, 0], [0, 0, 0, 0, 0, 0, 2, 0, 0]])

    def test_greatest_size(self):
        codes = [1] * 100
        codes[99] = 2
        codes[0] = 3
        self.assertEqual(
            ask(open_codes(10, 10, codes), HERE), [[0, 0], [0, 9, 9, 0, 0, 0, 2, 0, 0]])

    def test_narrow_and_flat(self):
        codes = [1] * 18 + [2, 3]
        self.assertEqual(ask(open_codes(2, 10, codes), HERE)[1][:3], [0, 0, 9])
        self.assertEqual(ask(open_codes(10, 2, codes), HERE)[1][:3], [0, 8, 1])

    def test_counts_things_of_each_code(self):
        for code in range(22):
            codes = [2, 3, code, 1]
            if code == 2:
                continue
            counted = 1 if code in (4, 5, 12, 13, 14) else 0
            self.assertEqual(last(open_codes(2, 2, codes)), [0, counted], code)

    def test_six_things(self):
        self.assertEqual(last(level("Skorgb", "E....o")), [0, 6])

    def test_several_stairs(self):
        self.assertEqual(last(level("SE", "EE")), [0, 0])

    def test_opens_another_level_anew(self):
        found = ask(level("SkE", "###"), do(RIGHT), level("ES", "ro"), HERE, BACK)
        self.assertEqual(found[2:], [[0, 2], [0, 1, 0, 0, 0, 0, 4, 0, 0, 0, 0], [-8]])


class Refused(unittest.TestCase):
    def test_width_and_height_outside(self):
        for wrong in (-HUGE, -1, 0, 1, 11, 12, HUGE):
            self.assertEqual(last(open_codes(wrong, 2, SMALL)), [-1], wrong)
            self.assertEqual(last(open_codes(2, wrong, SMALL)), [-1], wrong)

    def test_width_outside_with_as_many_numbers(self):
        self.assertEqual(last(open_codes(1, 4, SMALL)), [-1])
        self.assertEqual(last(open_codes(4, 1, SMALL)), [-1])
        self.assertEqual(last(open_codes(-2, -2, SMALL)), [-1])
        self.assertEqual(last(open_codes(11, 2, SMALL + [1] * 18)), [-1])
        self.assertEqual(last(open_codes(2, 11, SMALL + [1] * 18)), [-1])
        self.assertEqual(last(open_codes(0, 2, [])), [-1])

    def test_code_outside(self):
        for wrong in (-HUGE, -1, 22, 23, HUGE):
            for place in range(4):
                codes = [1, 1, 2, 3]
                codes[place] = wrong
                self.assertEqual(last(open_codes(2, 2, codes)), [-1], (wrong, place))

    def test_row_too_short_or_too_long(self):
        self.assertEqual(last(open_codes(2, 2, [])), [-1])
        self.assertEqual(last(open_codes(2, 2, [2, 3, 1])), [-1])
        self.assertEqual(last(open_codes(2, 2, [2, 3, 1, 1, 1])), [-1])
        self.assertEqual(last(open_codes(10, 10, [2, 3] + [1] * 198)), [-1])
        self.assertEqual(last(open_codes(3, 2, [2, 3, 1, 1])), [-1])

    def test_call_behind_a_wrong_row_is_still_read(self):
        found = ask(open_codes(2, 2, [2, 3, 1]), open_codes(2, 2, SMALL), HERE)
        self.assertEqual(found, [[-1], [0, 0], [0, 0, 0, 0, 0, 0, 2, 0, 0]])

    def test_starts_and_stairs(self):
        self.assertEqual(last(level("..", ".E")), [-4])
        self.assertEqual(last(level("SS", ".E")), [-4])
        self.assertEqual(last(level("SS", "SE")), [-4])
        self.assertEqual(last(level("S.", "..")), [-4])
        self.assertEqual(last(level("..", "..")), [-4])

    def test_seven_things(self):
        self.assertEqual(last(level("Skorgb", "Ek...o")), [-5])
        self.assertEqual(last(level("Skkkkkk", "Eoooooo")), [-5])

    def test_range_before_starts_before_things(self):
        self.assertEqual(last(open_codes(2, 2, [1, 1, 1, 22])), [-1])
        self.assertEqual(last(open_codes(3, 3, [4] * 8 + [22])), [-1])
        self.assertEqual(last(open_codes(3, 3, [4] * 8)), [-1])
        self.assertEqual(last(level("Skorgbk", "......o")), [-4])
        self.assertEqual(last(level("Ekorgbk", "......o")), [-4])

    def test_leaves_no_level_open(self):
        for wrong in (open_codes(2, 2, [2, 3, 1]), level("S.", ".."), level("Skkkkkkk", "E.......")):
            self.assertEqual(last(wrong, HERE), [-2])

    def test_leaves_the_open_level_and_the_acts(self):
        for wrong in (open_codes(2, 2, [2, 3, 1]), level("S.", ".."), level("Skkkkkkk", "E.......")):
            found = ask(level("SkoE", "...."), do(RIGHT), wrong, HERE, LEAST, far(3, 1), BACK)
            self.assertEqual(found[2][0] < 0, True)
            self.assertEqual(found[3:], [
                [0, 1, 0, 0, 1, 1, 4, 1, 0, 0, 0],
                [0, 1, 2, 1, 1],
                [0, 1, 3, 1, 2, 1],
                [0, 0, 0, 0]])


if __name__ == "__main__":
    unittest.main()
