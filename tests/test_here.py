import unittest

from helper import AGAIN, BACK, DOWN, HERE, LEFT, PULL, RIGHT, after, ask, do, level


class Here(unittest.TestCase):
    def test_without_things(self):
        found = after(("SABE", "####"), [], HERE, do(RIGHT), do(PULL), HERE, do(RIGHT), do(PULL), HERE)
        self.assertEqual(found[0], [0, 0, 0, 0, 0, 0, 2, 0, 0])
        self.assertEqual(found[3], [0, 1, 0, 0, 2, 0, 2, 1, 0])
        self.assertEqual(found[6], [0, 2, 0, 0, 4, 0, 2, 1, 1])

    def test_b_alone(self):
        self.assertEqual(after(("SBE", "###"), [RIGHT, PULL], HERE), [[0, 1, 0, 0, 2, 0, 2, 0, 1]])

    def test_x_and_y(self):
        self.assertEqual(after(("E....", "....S"), [LEFT], HERE)[0][1:3], [3, 1])

    def test_over(self):
        self.assertEqual(after(("S.E", "###"), [RIGHT, RIGHT], HERE), [[0, 2, 0, 1, 2, 0, 2, 0, 0]])

    def test_things_in_order_of_their_cells(self):
        rows = ("gSr", "kob", "AE.")
        marks_by_acts = {
            (LEFT,): [1, 0, 0, 0, 0],
            (RIGHT,): [0, 1, 0, 0, 0],
            (LEFT, DOWN): [1, 0, 1, 0, 0],
            (LEFT, DOWN, RIGHT): [1, 0, 1, 1, 0],
            (RIGHT, DOWN): [0, 1, 0, 0, 1],
        }
        for acts, marks in marks_by_acts.items():
            self.assertEqual(after(rows, acts, HERE)[0][6:], [7] + marks + [0, 0], acts)

    def test_six_things_and_both_levers_on(self):
        rows = ("SkkkrgAB", "E#o#####")
        acts = [RIGHT, RIGHT, DOWN, 0, RIGHT, RIGHT, RIGHT, RIGHT, PULL, RIGHT, PULL]
        self.assertEqual(after(rows, acts, HERE), [[0, 7, 0, 0, 11, 2, 8] + [1] * 8])

    def test_small_keys_in_hand(self):
        found = after(("SkkooE", "######"), [], HERE, *[do(RIGHT), HERE] * 4)
        self.assertEqual([answer[5] for answer in found[0::2]], [0, 1, 2, 1, 0])

    def test_acts_are_those_not_taken_back(self):
        found = after(("S.", "E."), [RIGHT, LEFT, RIGHT], HERE, BACK, HERE, do(DOWN), HERE, AGAIN, HERE)
        self.assertEqual([answer[4] for answer in found[0::2]], [3, 2, 3, 0])

    def test_changes_nothing(self):
        found = after(("SkoE", "####"), [RIGHT], HERE, HERE, HERE)
        self.assertEqual(found, [[0, 1, 0, 0, 1, 1, 4, 1, 0, 0, 0]] * 3)

    def test_refused(self):
        self.assertEqual(ask(HERE, level("SE", "##"), HERE)[0], [-2])


if __name__ == "__main__":
    unittest.main()
