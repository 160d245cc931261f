import unittest

from helper import (
    AGAIN, BACK, DOWN, HERE, HUGE, LEAST, LEFT, PULL, RIGHT, UP, after, ask, do, far, last, level, steps_of)

NONE = [0, 0]


def least(*rows):
    return last(level(*rows), LEAST)


class Least(unittest.TestCase):
    def test_least_of_several_lists(self):
        self.assertEqual(least("S..", "...", "..E"), steps_of([RIGHT, RIGHT, DOWN, DOWN]))
        self.assertEqual(least("E..", "...", "..S"), steps_of([UP, UP, LEFT, LEFT]))
        self.assertEqual(least("..S", "...", "E.."), steps_of([DOWN, DOWN, LEFT, LEFT]))
        self.assertEqual(least("..E", "...", "S.."), steps_of([UP, UP, RIGHT, RIGHT]))

    def test_least_of_several_stairs(self):
        self.assertEqual(least(".E.", "ESE", ".E."), steps_of([UP]))
        self.assertEqual(least("...", "ESE", ".E."), steps_of([RIGHT]))
        self.assertEqual(least("...", "ES.", ".E."), steps_of([DOWN]))
        self.assertEqual(least("...", "ES.", "..."), steps_of([LEFT]))

    def test_fewest_before_least(self):
        self.assertEqual(least("E.S.", "...E"), steps_of([RIGHT, DOWN]))
        self.assertEqual(least("E.#", "..S", ".E#"), steps_of([LEFT, DOWN]))
        self.assertEqual(least("E...", ".#S#", ".E.."), steps_of([DOWN, LEFT]))

    def test_of_two_longer_lists_that_differ_late(self):
        self.assertEqual(least("S...", "##..", "E..."), steps_of(
            [RIGHT, RIGHT, DOWN, DOWN, LEFT, LEFT]))
        self.assertEqual(least("S..", ".#.", "..E"), steps_of([RIGHT, RIGHT, DOWN, DOWN]))
        self.assertEqual(least("S.#", "..#", "#.E"), steps_of([RIGHT, DOWN, DOWN, RIGHT]))

    def test_empty_list_at_stairs(self):
        self.assertEqual(after(("SE", "##"), [RIGHT], LEAST), [[0, 1, 0]])

    def test_none(self):
        self.assertEqual(least("S#E", "###"), NONE)
        self.assertEqual(least("SoE", "###"), NONE)
        self.assertEqual(least("SmE", "###"), NONE)
        self.assertEqual(least("SRE", "r##"), steps_of([DOWN, UP, RIGHT, RIGHT]))
        self.assertEqual(least("SRE", "g##"), NONE)
        self.assertEqual(least("S<E", "###"), NONE)
        self.assertEqual(least("AnSnA", "##o##", "##E##"), NONE)

    def test_needs_a_key(self):
        for key, door in zip("rgb", "RGU"):
            self.assertEqual(
                least(key + ".S" + door + "E", "#####"),
                steps_of([LEFT, LEFT, RIGHT, RIGHT, RIGHT, RIGHT]))

    def test_needs_a_small_key_for_a_lock(self):
        self.assertEqual(least("kSoE", "####"), steps_of([LEFT, RIGHT, RIGHT, RIGHT]))
        self.assertEqual(
            least("kkSooE", "######"),
            steps_of([LEFT, LEFT, RIGHT, RIGHT, RIGHT, RIGHT, RIGHT]))

    def test_needs_a_lever(self):
        self.assertEqual(least("ASmE", "####"), steps_of([LEFT, PULL, RIGHT, RIGHT, RIGHT]))
        self.assertEqual(least("BSpE", "####"), steps_of([LEFT, PULL, RIGHT, RIGHT, RIGHT]))

    def test_needs_a_lever_on_and_then_off(self):
        self.assertEqual(
            least("SAmAnE", "######"),
            steps_of([RIGHT, PULL, RIGHT, RIGHT, PULL, RIGHT, RIGHT]))

    def test_pull_is_the_greatest_act(self):
        # Through both gates and round them seven acts are needed: they differ in the second, pull or down.
        self.assertEqual(
            least("SAmBpE", "#....."), steps_of([RIGHT, DOWN, RIGHT, RIGHT, RIGHT, RIGHT, UP]))
        self.assertEqual(
            least("SAmBpE", "######"), steps_of([RIGHT, PULL, RIGHT, RIGHT, PULL, RIGHT, RIGHT]))
        self.assertEqual(least("SAmE", "#..."), steps_of([RIGHT, PULL, RIGHT, RIGHT]))

    def test_needs_a_drop(self):
        self.assertEqual(least("S>E", "###"), steps_of([RIGHT, RIGHT]))
        self.assertEqual(least("Sv", "#.", "E<"), steps_of([RIGHT, DOWN, DOWN, LEFT]))
        self.assertEqual(least("E<", "#^", "S>"), NONE)

    def test_round_a_drop(self):
        self.assertEqual(least("S<E", "..."), steps_of([DOWN, RIGHT, RIGHT, UP]))

    def test_goes_by_the_marks_here(self):
        rows = ("ASmE", "####")
        found = after(rows, [LEFT, PULL, RIGHT], LEAST, BACK, LEAST, AGAIN, LEAST)
        self.assertEqual(found[0], steps_of([RIGHT, RIGHT]))
        self.assertEqual(found[2], steps_of([RIGHT, RIGHT, RIGHT]))
        self.assertEqual(found[4], steps_of([LEFT, PULL, RIGHT, RIGHT, RIGHT]))

    def test_none_once_the_key_is_used_up(self):
        found = after(("Sko.E", "#o###"), [], LEAST, do(RIGHT), do(DOWN), LEAST, BACK, LEAST)
        self.assertEqual(found[0], steps_of([RIGHT] * 4))
        self.assertEqual(found[3], NONE)
        self.assertEqual(found[5], steps_of([RIGHT] * 3))

    def test_changes_nothing(self):
        found = after(("SkoE", "####"), [RIGHT], LEAST, LEAST, HERE)
        self.assertEqual(found[0], found[1])
        self.assertEqual(found[2], [0, 1, 0, 0, 1, 1, 4, 1, 0, 0, 0])

    def test_a_long_list(self):
        rows = ["." * 9 + "#" for row in range(10)]
        for y in (1, 5, 9):
            rows[y] = "#" * 8 + ".#"
        for y in (3, 7):
            rows[y] = "." + "#" * 9
        rows[0] = "S" + rows[0][1:]
        rows[9] = "########E#"
        told = least(*rows)
        expected = []
        for turn in range(4):
            expected += [LEFT if turn % 2 else RIGHT] * 8 + [DOWN] * 2
        expected += [RIGHT] * 8 + [DOWN]
        self.assertEqual(told, steps_of(expected))

    def test_refused(self):
        self.assertEqual(ask(LEAST, level("SE", "##"), LEAST), [[-2], [0, 0], [0, 1, 1, 1]])


class Far(unittest.TestCase):
    def test_least_of_several_lists(self):
        found = ask(level("S..", "...", "..E"), far(1, 1), far(2, 1), far(1, 2), far(2, 2))
        self.assertEqual(found[1:], [
            steps_of([RIGHT, DOWN]), steps_of([RIGHT, RIGHT, DOWN]), steps_of([RIGHT, DOWN, DOWN]),
            steps_of([RIGHT, RIGHT, DOWN, DOWN])])

    def test_x_is_ahead_of_y(self):
        found = ask(level("S..E", "...."), far(3, 1), far(0, 1))
        self.assertEqual(found[1:], [steps_of([RIGHT, RIGHT, DOWN, RIGHT]), steps_of([DOWN])])

    def test_empty_list(self):
        self.assertEqual(last(level("S.", "E."), far(0, 0)), [0, 1, 0])
        self.assertEqual(after(("S.E", "###"), [RIGHT, RIGHT], far(2, 0)), [[0, 1, 0]])
        self.assertEqual(after(("SkE", "###"), [RIGHT], far(1, 0)), [[0, 1, 0]])

    def test_none(self):
        found = ask(level("S#..", "#E.o"), far(1, 0), far(2, 0), far(3, 1), far(1, 1))
        self.assertEqual(found[1:], [NONE] * 4)

    def test_nothing_behind_stairs(self):
        self.assertEqual(last(level("SE.", "###"), far(2, 0)), NONE)
        self.assertEqual(after(("SE.", "###"), [RIGHT], far(0, 0), far(2, 0)), [NONE, NONE])

    def test_needs_a_key_a_lock_a_lever_a_drop(self):
        self.assertEqual(last(level("rSR.", "#E##"), far(3, 0)), steps_of([LEFT] + [RIGHT] * 3))
        self.assertEqual(last(level("kSo.", "#E##"), far(3, 0)), steps_of([LEFT] + [RIGHT] * 3))
        self.assertEqual(last(level("ASm.", "#E##"), far(3, 0)), steps_of([LEFT, PULL] + [RIGHT] * 3))
        self.assertEqual(last(level("S>.", "E##"), far(2, 0)), steps_of([RIGHT, RIGHT]))

    def test_to_the_thing_itself(self):
        found = ask(level("kSo.", "#E##"), far(0, 0), far(2, 0))
        self.assertEqual(found[1:], [steps_of([LEFT]), steps_of([LEFT, RIGHT, RIGHT])])

    def test_whatever_the_marks_are_there(self):
        rows = ("kSo.", "#E##")
        self.assertEqual(after(rows, [LEFT, RIGHT, RIGHT], far(1, 0), far(0, 0)), [
            steps_of([LEFT]), steps_of([LEFT, LEFT])])

    def test_not_up_a_drop(self):
        self.assertEqual(after(("S>.", "E##"), [RIGHT, RIGHT], far(0, 0), far(1, 0)), [NONE, NONE])

    def test_no_such_cell(self):
        found = ask(level("S..", "..E"), far(3, 0), far(0, 2), far(9, 9), far(2, 1), far(2, 2))
        self.assertEqual(found[1:], [[-3], [-3], [-3], steps_of([RIGHT, RIGHT, DOWN]), [-3]])

    def test_all_numbers_are_cells_of_the_greatest_level(self):
        rows = ["." * 10] * 9 + ["." * 8 + "ES"]
        self.assertEqual(last(level(*rows), far(9, 9)), [0, 1, 0])
        self.assertEqual(last(level(*rows), far(0, 0)), steps_of([UP] * 9 + [LEFT] * 9))

    def test_outside(self):
        for wrong in (-HUGE, -1, 10, 11, HUGE):
            found = ask(level("S..", "..E"), far(wrong, 0), far(0, wrong), far(wrong, wrong), HERE)
            self.assertEqual(found[1:4], [[-1]] * 3)
            self.assertEqual(found[4], [0, 0, 0, 0, 0, 0, 2, 0, 0])

    def test_refusals_in_order(self):
        self.assertEqual(ask(far(10, 0), far(0, -1), far(0, 0), far(9, 9)), [[-1], [-1], [-2], [-2]])
        self.assertEqual(ask(level("SE", "##"), far(9, 10), far(10, 9)), [[0, 0], [-1], [-1]])

    def test_changes_nothing(self):
        found = after(("SkoE", "####"), [RIGHT], far(3, 0), far(3, 0), HERE)
        self.assertEqual(found, [
            steps_of([RIGHT, RIGHT]), steps_of([RIGHT, RIGHT]), [0, 1, 0, 0, 1, 1, 4, 1, 0, 0, 0]])


if __name__ == "__main__":
    unittest.main()
