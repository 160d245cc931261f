import math
import unittest

from helper import AGAIN, BACK, DOWN, LEAST, LEFT, PULL, RIGHT, STATE, WAYS, after, ask, do, edit, last, level

MODULUS = 1000000007


def ways(*rows):
    return last(level(*rows), WAYS)


class Ways(unittest.TestCase):
    def test_one(self):
        self.assertEqual(ways("SE", "##"), [0, 1])
        self.assertEqual(ways("S.E", "..."), [0, 1])
        self.assertEqual(ways("SrRE", "####"), [0, 1])

    def test_none(self):
        self.assertEqual(ways("S#", "#E"), [0, 0])
        self.assertEqual(ways("SoE", "###"), [0, 0])
        self.assertEqual(after(("Sko.E", "#o###"), [RIGHT, DOWN], WAYS), [[0, 0]])

    def test_at_stairs(self):
        self.assertEqual(after(("SE", ".."), [RIGHT], WAYS), [[0, 1]])
        self.assertEqual(after(("SE", "EE"), [DOWN], WAYS), [[0, 1]])

    def test_several(self):
        self.assertEqual(ways("S.", ".E"), [0, 2])
        self.assertEqual(ways("S..", "..E"), [0, 3])
        self.assertEqual(ways("S..", "...", "..E"), [0, 6])
        self.assertEqual(ways("S..", ".#.", "..E"), [0, 2])

    def test_open_floor(self):
        for w in range(2, 11):
            for h in range(2, 11):
                rows = ["." * w for row in range(h)]
                rows[0] = "S" + "." * (w - 1)
                rows[-1] = "." * (w - 1) + "E"
                self.assertEqual(ways(*rows), [0, math.comb(w + h - 2, w - 1)], (w, h))

    def test_to_several_stairs(self):
        self.assertEqual(ways("ESE", "..."), [0, 2])
        self.assertEqual(ways("S.E", "...", "E.."), [0, 2])
        self.assertEqual(ways("S..", "..E", ".E."), [0, 6])
        # Those that lie farther don't count.
        self.assertEqual(ways("SE", "E."), [0, 2])
        self.assertEqual(ways("SE.", "..E"), [0, 1])

    def test_not_through_stairs(self):
        self.assertEqual(ways("#S#", ".E.", "..."), [0, 1])
        self.assertEqual(after(("S.", ".E"), [RIGHT], WAYS), [[0, 1]])

    def test_keys_in_either_order(self):
        # Left and right of the start a key each, and both are needed.
        self.assertEqual(ways("rSg", "#R#", "#G#", "#E#"), [0, 2])
        self.assertEqual(ways("rSg", "#R#", "#E#"), [0, 1])
        self.assertEqual(ways("kSk", "#o#", "#E#"), [0, 2])

    def test_pulls_in_either_order(self):
        self.assertEqual(ways("ASB", "#m#", "#p#", "#E#"), [0, 2])
        # Pulled on the way there or on the way back.
        self.assertEqual(ways("SAr", "#R#", "#m#", "#E#"), [0, 2])

    def test_a_pull_and_a_move_of_the_same_length(self):
        self.assertEqual(ways("SAmBpE", "#....."), [0, 2])

    def test_from_here(self):
        found = after(("S..", "...", "..E"), [], WAYS, do(RIGHT), WAYS, do(RIGHT), WAYS, BACK, WAYS, AGAIN, WAYS)
        self.assertEqual(found[0::2], [[0, 6], [0, 3], [0, 1], [0, 3], [0, 6]])

    def test_goes_by_the_marks_here(self):
        # Round the gate, up before the stairs or beside them; with the gate open straight on.
        found = after(("ASm.E", "....."), [], WAYS, do(LEFT), do(PULL), do(RIGHT), WAYS)
        self.assertEqual([found[0], found[4]], [[0, 2], [0, 1]])

    def test_a_number_above_the_modulus(self):
        # Three times across six rows of ten cells: to the red key, back to its door and the green key, to its door.
        rows = ["g#########", "R#########", "S........."] + ["." * 10] * 4
        rows += [".........r", "#########G", "#########E"]
        lists = math.comb(14, 5) ** 3
        self.assertGreater(lists, MODULUS)
        found = ask(level(*rows), WAYS, LEAST)
        self.assertEqual(found[1], [0, lists % MODULUS])
        self.assertEqual(found[2][2], 3 * 14 + 4 + 2)

    def test_a_number_above_the_modulus_by_two_stairs(self):
        # To each of the two there are fewer lists than the modulus, to both together more.
        rows = ["g#########", "R#########", "S........."] + ["." * 10] * 4
        rows += [".......r..", "########G#", "#######E.E"]
        lists = math.comb(12, 5) ** 2 * math.comb(13, 5)
        self.assertLess(lists, MODULUS)
        self.assertGreater(2 * lists, MODULUS)
        self.assertEqual(ways(*rows), [0, 2 * lists % MODULUS])

    def test_a_number_below_the_modulus_is_told_whole(self):
        # Twice across eight rows of ten cells.
        rows = ["E#########", "R#########", "S........."] + ["." * 10] * 6 + [".........r"]
        self.assertEqual(ways(*rows), [0, math.comb(16, 7) ** 2])

    def test_after_an_edit(self):
        found = ask(level("S..", "..E"), WAYS, edit(1, 1, 0), WAYS, edit(2, 0, 0), WAYS)
        self.assertEqual(found[1::2], [[0, 3], [0, 1], [0, 0]])

    def test_changes_nothing(self):
        found = after(("SkoE", "...."), [RIGHT], STATE, WAYS, WAYS, STATE)
        self.assertEqual(found[1:3], [[0, 1], [0, 1]])
        self.assertEqual(found[3], found[0])

    def test_refused(self):
        self.assertEqual(ask(WAYS, level("S.", ".."), WAYS, level("SE", "##"), WAYS), [
            [-2], [-4], [-2], [0, 0], [0, 1]])


if __name__ == "__main__":
    unittest.main()
