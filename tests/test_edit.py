import unittest

from helper import (
    BACK, DOWN, HERE, HUGE, LEAST, PULL, RIGHT, STATE, THINGS, after, ask, do, edit, last, level, needed, steps_of)

DONE = [0]
SIX = ("Skorgb", "E....o")


def state_of(*rows):
    return last(level(*rows), STATE)


class Edit(unittest.TestCase):
    def test_the_cell_has_the_code(self):
        for code in range(22):
            if code == 2:
                continue
            found = ask(level("S..", "..E"), edit(1, 1, code), STATE)
            self.assertEqual(found[1:], [DONE, [0, 3, 2, 6, 2, 1, 1, 1, code, 3, 2, 0, 0]], code)

    def test_x_is_ahead_of_y(self):
        found = ask(level("S..E", "....", "...."), edit(3, 2, 7), edit(0, 1, 6), STATE)
        self.assertEqual(found[3][4:16], [2, 1, 1, 3, 6, 1, 1, 1, 1, 1, 1, 7])

    def test_open_anew(self):
        rows = ("SkAoE", "....#")
        found = after(rows, [RIGHT, RIGHT, PULL, RIGHT], edit(4, 1, 1), HERE, BACK, STATE)
        self.assertEqual(found, [
            DONE, [0, 0, 0, 0, 0, 0, 4, 0, 0, 0, 0], [-8], state_of("SkAoE", ".....")])

    def test_open_anew_with_the_code_that_was_there(self):
        found = after(("SkAE", "####"), [RIGHT, RIGHT, PULL], edit(1, 0, 4), HERE, BACK)
        self.assertEqual(found, [DONE, [0, 0, 0, 0, 0, 0, 3, 0, 0, 0], [-8]])

    def test_from_stairs(self):
        found = after(("SE", "##"), [RIGHT], edit(0, 1, 1), HERE, do(DOWN))
        self.assertEqual(found, [DONE, [0, 0, 0, 0, 0, 0, 2, 0, 0], [0, 0, 1, 0]])

    def test_the_moves_go_by_the_new_code(self):
        found = ask(level("S.E", "###"), edit(1, 0, 0), do(RIGHT), edit(1, 0, 19), do(RIGHT), LEAST)
        self.assertEqual(found[1:], [DONE, [-6], DONE, [0, 1, 0, 0], steps_of([RIGHT])])

    def test_a_thing_more_and_the_numbers_of_the_others(self):
        found = ask(level("S.o.E", "#.k##"), THINGS, needed(0), edit(1, 0, 12), THINGS, needed(0), needed(1), needed(2),
                    do(RIGHT), HERE, do(DOWN), do(RIGHT), HERE)
        self.assertEqual(found[1], [0, 6, 2, 0, 5, 2, 1, 4])
        self.assertEqual(found[2], [0, 1])
        self.assertEqual(found[4], [0, 9, 1, 0, 12, 2, 0, 5, 2, 1, 4])
        self.assertEqual(found[5:8], [[0, 0], [0, 1], [0, 1]])
        self.assertEqual(found[9][6:], [5, 1, 0, 0, 0, 0])
        self.assertEqual(found[12][6:], [5, 1, 0, 1, 0, 0])

    def test_a_thing_less_and_the_numbers_of_the_others(self):
        found = ask(level("Srko.E", "######"), edit(1, 0, 1), THINGS, do(RIGHT), do(RIGHT), HERE, needed(0), needed(2))
        self.assertEqual(found[2], [0, 6, 2, 0, 4, 3, 0, 5])
        self.assertEqual(found[5], [0, 2, 0, 0, 2, 1, 4, 1, 0, 0, 0])
        self.assertEqual(found[6:], [[0, 1], [-3]])

    def test_a_thing_instead_of_another(self):
        found = ask(level(*SIX), edit(1, 0, 14), THINGS)
        self.assertEqual(found[1:], [
            DONE, [0, 18, 1, 0, 14, 2, 0, 5, 3, 0, 12, 4, 0, 13, 5, 0, 14, 5, 1, 5]])

    def test_a_sixth_thing(self):
        found = ask(level("Skorgb", "E....."), edit(5, 1, 5), STATE)
        self.assertEqual(found[1:], [DONE, state_of(*SIX)])

    def test_other_stairs(self):
        found = ask(level("S.E", "..."), edit(0, 1, 3), LEAST, edit(2, 0, 1), LEAST)
        self.assertEqual(found[1:], [DONE, steps_of([DOWN]), DONE, steps_of([DOWN])])

    def test_one_edit_behind_another(self):
        found = ask(level("S.E", "..."), edit(1, 0, 0), edit(1, 1, 12), edit(2, 1, 15), STATE)
        self.assertEqual(found[4], state_of("S#E", ".rR"))

    def test_open_forgets_the_edits(self):
        found = ask(level("S.E", "..."), edit(1, 0, 0), level("S.E", "..."), STATE)
        self.assertEqual(found[3], state_of("S.E", "..."))


class Refused(unittest.TestCase):
    def test_no_such_cell(self):
        found = ask(level("S..", "..E"), edit(3, 0, 1), edit(0, 2, 1), edit(9, 9, 1), edit(3, 2, 1))
        self.assertEqual(found[1:], [[-3]] * 4)

    def test_all_numbers_are_cells_of_the_greatest_level(self):
        rows = ["." * 10] * 9 + ["." * 8 + "ES"]
        self.assertEqual(ask(level(*rows), edit(0, 9, 0), edit(9, 0, 0), edit(8, 8, 0))[1:], [DONE] * 3)

    def test_outside(self):
        for wrong in (-HUGE, -1, 10, 11, HUGE):
            found = ask(level("S..", "..E"), edit(wrong, 0, 1), edit(0, wrong, 1), edit(wrong, wrong, wrong))
            self.assertEqual(found[1:], [[-1]] * 3, wrong)
        for wrong in (-HUGE, -1, 22, 23, HUGE):
            self.assertEqual(last(level("S..", "..E"), edit(1, 1, wrong)), [-1], wrong)

    def test_starts_and_stairs(self):
        rows = ("S..", "..E")
        self.assertEqual(last(level(*rows), edit(1, 0, 2)), [-4])
        self.assertEqual(last(level(*rows), edit(0, 0, 1)), [-4])
        self.assertEqual(last(level(*rows), edit(0, 0, 3)), [-4])
        self.assertEqual(last(level(*rows), edit(2, 1, 1)), [-4])
        self.assertEqual(last(level(*rows), edit(2, 1, 2)), [-4])
        self.assertEqual(last(level(*rows), edit(0, 0, 2)), DONE)
        self.assertEqual(last(level(*rows), edit(2, 1, 3)), DONE)

    def test_a_seventh_thing(self):
        for code in range(22):
            expected = [-5] if code in (4, 5, 12, 13, 14) else [-4] if code == 2 else DONE
            self.assertEqual(last(level(*SIX), edit(2, 1, code)), expected, code)

    def test_order(self):
        # Outside before no level; that before no such cell; that before starts; these before things.
        self.assertEqual(ask(edit(0, 0, 22), edit(10, 0, 1), edit(0, 0, 1), edit(9, 9, 2)), [
            [-1], [-1], [-2], [-2]])
        self.assertEqual(ask(level(*SIX), edit(9, 9, 22), edit(9, 10, 2), edit(9, 9, 2), edit(6, 0, 4))[1:], [
            [-1], [-1], [-3], [-3]])
        self.assertEqual(ask(level(*SIX), edit(0, 0, 4), edit(0, 1, 4), edit(1, 1, 4))[1:], [[-4], [-4], [-5]])

    def test_leaves_everything_as_it_was(self):
        for wrong in (edit(-1, 0, 1), edit(0, 0, 22), edit(6, 0, 1), edit(1, 1, 2), edit(0, 1, 1), edit(1, 1, 4)):
            found = after(SIX, [RIGHT, RIGHT], STATE, HERE, LEAST, wrong, STATE, HERE, LEAST, BACK, BACK, BACK)
            self.assertLess(found[3][0], 0, wrong)
            self.assertEqual(found[4:7], found[:3], wrong)
            self.assertEqual(found[7:], [[0, 1, 0, 0], [0, 0, 0, 0], [-8]], wrong)

    def test_opens_no_level(self):
        self.assertEqual(ask(edit(0, 0, 2), HERE), [[-2], [-2]])


if __name__ == "__main__":
    unittest.main()
