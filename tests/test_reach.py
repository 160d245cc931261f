import unittest

from helper import AGAIN, BACK, DOWN, HERE, LEFT, PULL, REACH, RIGHT, after, ask, do, last, level


def reach(*rows):
    return last(level(*rows), REACH)


class Reach(unittest.TestCase):
    def test_floor_alone(self):
        self.assertEqual(reach("S..", "..E"), [0, 6, 6, 1])

    def test_walls(self):
        self.assertEqual(reach("S.#", "##E"), [0, 2, 2, 0])

    def test_the_spot_here_alone(self):
        self.assertEqual(reach("S#", "#E"), [0, 1, 1, 0])

    def test_nothing_behind_stairs(self):
        self.assertEqual(reach("SE..", "####"), [0, 2, 2, 1])

    def test_a_key_doubles_spots_not_cells(self):
        # Before it is taken: the start alone; then all cells.
        for key in "krgb":
            self.assertEqual(reach("S" + key + ".E", "####"), [0, 5, 4, 1], key)

    def test_two_keys(self):
        # The start with none, with either, with both; each key's cell and the stairs with it alone and with both.
        self.assertEqual(reach("rSgE", "####"), [0, 10, 4, 1])

    def test_a_lock(self):
        self.assertEqual(reach("SoE", "###"), [0, 1, 1, 0])
        # S; then with the key S, k; then with the lock opened S, k, o, E.
        self.assertEqual(reach("SkoE", "####"), [0, 7, 4, 1])

    def test_a_lever(self):
        # Each of the two cells with the lever on and off, and the stairs so.
        self.assertEqual(reach("SAE", "###"), [0, 6, 3, 1])
        self.assertEqual(reach("SAB#", "###E"), [0, 12, 3, 0])

    def test_gates(self):
        # The gate and what lies behind it with A on; standing there, A can't be turned off.
        self.assertEqual(reach("SAm.", "##E#"), [0, 7, 5, 1])
        self.assertEqual(reach("SAn.", "##E#"), [0, 7, 5, 1])

    def test_a_door(self):
        self.assertEqual(reach("SrRE", "####"), [0, 5, 4, 1])
        self.assertEqual(reach("SgRE", "####"), [0, 3, 2, 0])

    def test_a_drop(self):
        self.assertEqual(reach("S>.E", "####"), [0, 4, 4, 1])
        self.assertEqual(after(("S>.E", "####"), [RIGHT, RIGHT], REACH), [[0, 2, 2, 1]])
        self.assertEqual(reach("S<.E", "####"), [0, 1, 1, 0])

    def test_from_stairs(self):
        self.assertEqual(after(("SkE", "###"), [RIGHT, RIGHT], REACH), [[0, 1, 1, 1]])

    def test_goes_by_the_marks_here(self):
        found = after(("SkoE", "####"), [], *[REACH, do(RIGHT)] * 3, REACH, BACK, REACH, AGAIN, REACH)
        self.assertEqual(found[0::2], [
            [0, 7, 4, 1], [0, 6, 4, 1], [0, 4, 4, 1], [0, 1, 1, 1], [0, 4, 4, 1], [0, 7, 4, 1]])

    def test_with_a_lever_on(self):
        found = after(("SnAE", "####"), [RIGHT, RIGHT, PULL], REACH)
        # A off: S, gate, lever, stairs; A on: lever, stairs.
        self.assertEqual(found, [[0, 6, 4, 1]])
        self.assertEqual(after(("S>A#", "###E"), [RIGHT, RIGHT], REACH), [[0, 2, 1, 0]])

    def test_the_greatest_level(self):
        # From a key's cell on all marks are free: 2 to the power 8 times 98 cells, less what must be marked.
        rows = ["." * 10 for row in range(10)]
        rows[0] = "S" + "." * 9
        rows[5] = "A........B"
        rows[9] = "........#E"
        rows[8] = ".........#"
        self.assertEqual(reach(*rows), [0, 97 * 4, 97, 0])
        rows[3] = "rrrgbk...."
        # Each of the six keys' cells is come to only with its own marked: half of the 64 marks.
        self.assertEqual(reach(*rows), [0, (91 * 64 + 6 * 32) * 4, 97, 0])

    def test_changes_nothing(self):
        found = after(("SkoE", "####"), [RIGHT], REACH, REACH, HERE)
        self.assertEqual(found, [[0, 6, 4, 1], [0, 6, 4, 1], [0, 1, 0, 0, 1, 1, 4, 1, 0, 0, 0]])

    def test_unlike_ways_to_the_same_spot_count_once(self):
        self.assertEqual(after(("S.", ".E"), [RIGHT, LEFT, DOWN], REACH), [[0, 4, 4, 1]])

    def test_refused(self):
        self.assertEqual(ask(REACH, level("SE", "##"), REACH), [[-2], [0, 0], [0, 2, 2, 1]])


if __name__ == "__main__":
    unittest.main()
