import unittest

from helper import (
    DOWN, HERE, HUGE, LEFT, PULL, RIGHT, STATE, UP, after, ask, do, edit, last, level, needed)

YES = [0, 1]
NO = [0, 0]


def all_needed(things, *rows):
    found = ask(level(*rows), *[needed(thing) for thing in range(things)])
    assert found[0] == [0, things], found
    return found[1:]


class Needed(unittest.TestCase):
    def test_keys(self):
        self.assertEqual(all_needed(1, "SrRE", "####"), [YES])
        self.assertEqual(all_needed(1, "SgGE", "####"), [YES])
        self.assertEqual(all_needed(1, "SbUE", "####"), [YES])
        self.assertEqual(all_needed(1, "SrRE", "...."), [NO])
        self.assertEqual(all_needed(2, "SrRE", "b###"), [YES, NO])

    def test_a_keys_cell_is_floor_then(self):
        for key in "krgb":
            self.assertEqual(all_needed(1, "S" + key + "E", "###"), [NO], key)

    def test_a_locks_cell_is_a_wall_then(self):
        self.assertEqual(all_needed(2, "SkoE", "####"), [YES, YES])
        self.assertEqual(all_needed(2, "SkoE", "...."), [NO, NO])

    def test_two_locks(self):
        # Things in order: the key, the lock on the way, the lock beside it.
        self.assertEqual(all_needed(3, "Sko.E", "#o###"), [YES, YES, NO])
        # Either lock leads to the stairs.
        self.assertEqual(all_needed(3, "SkoE", "#o..", "#..."), [YES, NO, NO])

    def test_two_keys_for_one_door_or_lock(self):
        self.assertEqual(all_needed(2, "SrrRE", "#####"), [NO, NO])
        self.assertEqual(all_needed(3, "SkkoE", "#####"), [NO, NO, YES])
        self.assertEqual(all_needed(4, "SkkooE", "######"), [YES] * 4)

    def test_things_behind_the_one_left_out_keep_their_meaning(self):
        self.assertEqual(all_needed(4, "gSrbR", "#k##E"), [NO, YES, NO, NO])
        # The lever's marks lie behind those of the things.
        self.assertEqual(all_needed(1, "rSAmE", "#####"), [NO])
        self.assertEqual(all_needed(2, "kSBpo", "####E"), [YES, YES])

    def test_six_things(self):
        self.assertEqual(all_needed(6, "SrRgGbUkoE", "r########."), [NO, YES, YES, YES, YES, NO])
        self.assertEqual(all_needed(6, "SkokokoE", "########"), [YES] * 6)

    def test_stairs_that_cannot_be_reached_anyway(self):
        self.assertEqual(all_needed(2, "Srk#E", "#####"), [YES, YES])
        self.assertEqual(all_needed(1, "SoE", "###"), [YES])

    def test_told_of_the_start(self):
        rows = ("Sko.E", "#o###")
        for acts in ([], [RIGHT], [RIGHT, DOWN], [RIGHT] * 2, [RIGHT] * 4):
            self.assertEqual(after(rows, acts, *[needed(thing) for thing in range(3)]), [YES, YES, NO], acts)

    def test_told_with_nothing_marked(self):
        self.assertEqual(after(("SrRE", "####"), [RIGHT, RIGHT], needed(0)), [YES])

    def test_told_of_the_start_where_the_spot_here_is_spoilt(self):
        self.assertEqual(after(("S.E", "v##", "r##"), [DOWN, DOWN], needed(0)), [NO])

    def test_told_with_the_levers_off(self):
        # The gate is shut, and the lever lies behind the drop: the red key opens the way round.
        self.assertEqual(all_needed(1, "AvSmE", "#.##.", "#.rR."), [YES])
        self.assertEqual(all_needed(1, "A.SmE", "#.##.", "#.rR."), [NO])
        # Down the drop with B on the red key would be needed; at first B is off and the gate open.
        rows = ("SBq.", "v##E", ".rR.")
        self.assertEqual(after(rows, [RIGHT, PULL, LEFT, DOWN, DOWN], needed(0)), [NO])

    def test_no_such_thing(self):
        found = ask(level("SkE", "###"), *[needed(thing) for thing in range(6)])
        self.assertEqual(found[1:], [NO] + [[-3]] * 5)
        self.assertEqual(last(level("SE", "##"), needed(0)), [-3])

    def test_outside(self):
        for wrong in (-HUGE, -1, 6, 7, HUGE):
            found = ask(needed(wrong), level("SkokokoE", "########"), needed(wrong), needed(5))
            self.assertEqual(found, [[-1], [0, 6], [-1], YES])

    def test_refusals_in_order(self):
        found = ask(needed(0), needed(5), needed(6), level("SE", "##"), needed(6), needed(5))
        self.assertEqual(found, [[-2], [-2], [-1], [0, 0], [-1], [-3]])

    def test_after_an_edit(self):
        found = ask(level("SrRE", "####"), needed(0), edit(2, 0, 1), needed(0), edit(1, 0, 1), needed(0))
        self.assertEqual(found[1::2], [YES, NO, [-3]])

    def test_changes_nothing(self):
        found = after(("SkoE", "####"), [RIGHT], STATE, needed(0), needed(1), needed(2), STATE, HERE, do(UP))
        self.assertEqual(found[1:4], [YES, YES, [-3]])
        self.assertEqual(found[4], found[0])
        self.assertEqual(found[5:], [[0, 1, 0, 0, 1, 1, 4, 1, 0, 0, 0], [-6]])


if __name__ == "__main__":
    unittest.main()
