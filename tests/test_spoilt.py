import unittest

from helper import (
    AGAIN, BACK, DOWN, HERE, LEFT, PULL, RIGHT, SPOIL, SPOILT, STATE, UP, after, ask, do, edit, last, level,
    steps_of)

YES = [0, 1]
NO = [0, 0]
NONE = [0, 0]
TWO_LOCKS = ("Sko.E", "#o###")


def spoilt(*rows):
    return last(level(*rows), SPOILT)


def spoil(*rows):
    return last(level(*rows), SPOIL)


class Spoilt(unittest.TestCase):
    def test_the_start(self):
        self.assertEqual(spoilt("S.E", "###"), NO)
        self.assertEqual(spoilt("S#", "#E"), YES)
        self.assertEqual(spoilt("SoE", "###"), YES)
        self.assertEqual(spoilt("SRE", "g##"), YES)
        self.assertEqual(spoilt("S<E", "###"), YES)
        self.assertEqual(spoilt("SmE", "###"), YES)
        self.assertEqual(spoilt("SnE", "###"), NO)

    def test_a_list_that_is_not_begun_yet_counts(self):
        self.assertEqual(spoilt("SRE", "r##"), NO)
        self.assertEqual(spoilt("SoE", "k##"), NO)
        self.assertEqual(spoilt("SmE", "A##"), NO)
        self.assertEqual(spoilt("SpE", "B##"), NO)
        self.assertEqual(spoilt("SpE", "A##"), YES)

    def test_at_stairs(self):
        self.assertEqual(after(("SE", "##"), [RIGHT], SPOILT), [NO])
        self.assertEqual(after(("SkoE", "####"), [RIGHT] * 3, SPOILT), [NO])

    def test_a_small_key_in_the_wrong_lock(self):
        found = after(TWO_LOCKS, [], SPOILT, do(RIGHT), SPOILT, do(DOWN), SPOILT, BACK, SPOILT, do(RIGHT), SPOILT)
        self.assertEqual(found[0::2], [NO, NO, YES, NO, NO])

    def test_a_small_key_more(self):
        found = after(("Skko.E", "#o####"), [RIGHT, DOWN], SPOILT)
        self.assertEqual(found, [NO])

    def test_behind_a_drop(self):
        rows = ("S.E", "v##", ".##")
        self.assertEqual(after(rows, [], SPOILT, do(DOWN), SPOILT, do(DOWN), SPOILT)[0::2], [NO, YES, YES])
        self.assertEqual(after(("S>.", "..E"), [RIGHT, RIGHT], SPOILT), [NO])

    def test_a_lever_left_behind(self):
        # Who drops past the lever without a pull finds the gate shut.
        rows = ("S.v", "A#m", "##E")
        self.assertEqual(after(rows, [RIGHT, RIGHT], SPOILT), [YES])
        self.assertEqual(after(rows, [DOWN, PULL, UP, RIGHT, RIGHT], SPOILT), [NO])
        rows = ("S.v", "B#q", "##E")
        self.assertEqual(after(rows, [RIGHT, RIGHT], SPOILT), [NO])
        self.assertEqual(after(rows, [DOWN, PULL, UP, RIGHT, RIGHT], SPOILT), [YES])

    def test_again(self):
        self.assertEqual(after(TWO_LOCKS, [RIGHT, DOWN], SPOILT, AGAIN, SPOILT), [YES, [0], NO])

    def test_another_level(self):
        found = ask(level("S#E", "###"), SPOILT, level("S.E", "###"), SPOILT, edit(1, 0, 5), SPOILT)
        self.assertEqual(found[1::2], [YES, NO, YES])

    def test_changes_nothing(self):
        found = after(TWO_LOCKS, [RIGHT], STATE, SPOILT, SPOILT, STATE, HERE)
        self.assertEqual(found[1:3], [NO, NO])
        self.assertEqual(found[3], found[0])
        self.assertEqual(found[4], [0, 1, 0, 0, 1, 1, 5, 1, 0, 0, 0, 0])

    def test_refused(self):
        self.assertEqual(ask(SPOILT, level("S.", ".."), SPOILT, level("SE", "##"), SPOILT), [
            [-2], [-4], [-2], [0, 0], NO])


class Spoil(unittest.TestCase):
    def test_spoilt_already(self):
        self.assertEqual(spoil("S#", "#E"), [0, 1, 0])
        self.assertEqual(after(TWO_LOCKS, [RIGHT, DOWN], SPOIL), [[0, 1, 0]])
        self.assertEqual(after(("S.E", "v##", ".##"), [DOWN], SPOIL), [[0, 1, 0]])

    def test_nothing_can_be_spoilt(self):
        self.assertEqual(spoil("S.E", "..."), NONE)
        self.assertEqual(spoil("SrRE", "####"), NONE)
        self.assertEqual(spoil("SAmE", "####"), NONE)
        self.assertEqual(spoil("S>.E", "####"), NONE)
        self.assertEqual(spoil("Skko.E", "#o####"), NONE)

    def test_from_stairs(self):
        self.assertEqual(after(("SE", "v#"), [RIGHT], SPOIL), [NONE])
        self.assertEqual(after(("SE", "v#"), [], SPOIL), [steps_of([DOWN])])

    def test_the_other_lock(self):
        self.assertEqual(spoil(*TWO_LOCKS), steps_of([RIGHT, DOWN]))
        found = after(TWO_LOCKS, [RIGHT], SPOIL, do(LEFT), SPOIL, do(RIGHT), do(RIGHT), SPOIL)
        self.assertEqual([found[0], found[2], found[5]], [steps_of([DOWN]), steps_of([RIGHT, DOWN]), NONE])

    def test_the_least_of_two_one_act_lists(self):
        self.assertEqual(spoil("#^#", "<SE", "#v#"), steps_of([UP]))
        self.assertEqual(spoil("###", "<SE", "#v#"), steps_of([DOWN]))
        self.assertEqual(spoil("###", "<SE", "###"), steps_of([LEFT]))
        self.assertEqual(spoil("#E#", "<S>", "#v#"), steps_of([RIGHT]))

    def test_the_least_of_several_ways_to_one_spot(self):
        # To the drop in the bottom row: right and down, or down and right.
        self.assertEqual(spoil("....", ".S.E", "..v."), steps_of([RIGHT, DOWN]))
        self.assertEqual(spoil("...E", ".S..", "v..."), steps_of([DOWN, LEFT]))

    def test_the_fewest_acts_before_the_least(self):
        # Up it takes three acts, left one.
        self.assertEqual(spoil("#^#", "#.#", "#.#", "<SE"), steps_of([LEFT]))

    def test_a_pull_among_the_acts(self):
        # With B on the gate to the stairs is shut, and no way leads back up the drop to the lever.
        rows = ("S.v", "B#q", "##E")
        self.assertEqual(spoil(*rows), steps_of([DOWN, PULL, UP, RIGHT, RIGHT]))
        self.assertEqual(after(rows, [DOWN, PULL], SPOIL), [steps_of([UP, RIGHT, RIGHT])])

    def test_pull_is_the_greatest_act(self):
        # Down the column, or past the gate that a pull shuts: the lists part at the second act.
        self.assertEqual(spoil("SB>qE", "#.###", "#v###"), steps_of([RIGHT, DOWN, DOWN]))
        self.assertEqual(spoil("SB>qE", "#.###", "#.###", "#v###"), steps_of([RIGHT, PULL, RIGHT]))
        self.assertEqual(
            spoil("SB.>qE", "#.####", "#.####", "#v####"), steps_of([RIGHT, DOWN, DOWN, DOWN]))

    def test_changes_nothing(self):
        found = after(TWO_LOCKS, [RIGHT], STATE, SPOIL, SPOIL, STATE)
        self.assertEqual(found[1:3], [steps_of([DOWN])] * 2)
        self.assertEqual(found[3], found[0])

    def test_what_it_tells_is_spoilt_and_nothing_before_it(self):
        acts = spoil("S.v", "B#q", "##E")[3:]
        calls = [call for act in acts for call in (SPOILT, do(act))]
        self.assertEqual(ask(level("S.v", "B#q", "##E"), *calls, SPOILT)[1::2], [NO] * len(acts) + [YES])

    def test_another_level(self):
        found = ask(level("SE", "v#"), SPOIL, edit(0, 1, 1), SPOIL, level("S#", "#E"), SPOIL)
        self.assertEqual(found[1::2], [steps_of([DOWN]), NONE, [0, 1, 0]])

    def test_refused(self):
        self.assertEqual(ask(SPOIL, level("SS", "E."), SPOIL, level("SE", "##"), SPOIL), [
            [-2], [-4], [-2], [0, 0], NONE])


if __name__ == "__main__":
    unittest.main()
