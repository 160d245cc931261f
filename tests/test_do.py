import unittest

from helper import BACK, DOWN, HERE, HUGE, LEFT, PULL, RIGHT, UP, after, ask, do, last, level, open_codes

MOVES = (UP, RIGHT, DOWN, LEFT)
STEP = {UP: (0, -1), RIGHT: (1, 0), DOWN: (0, 1), LEFT: (-1, 0)}
CENTRE = (2, 2)


def beside(act, cell=CENTRE):
    return cell[0] + STEP[act][0], cell[1] + STEP[act][1]


def opposite(act):
    return (act + 2) % 4


def around(codes_by_cell):
    """A level 5 by 5 of floor, the start in its middle, stairs in a corner, and the cells told."""
    codes = [1] * 25
    codes[0] = 3
    codes[12] = 2
    for (x, y), code in codes_by_cell.items():
        codes[y * 5 + x] = code
    return open_codes(5, 5, codes)


def marks_here(answer):
    return answer[7:]


class Moves(unittest.TestCase):
    def test_answers_the_cell_in_each_direction(self):
        for act in MOVES:
            x, y = beside(act)
            self.assertEqual(last(around({}), do(act)), [0, x, y, 0])

    def test_edge_in_each_direction(self):
        rows = ("S.", ".E")
        self.assertEqual(after(rows, [], do(UP), do(LEFT)), [[-6], [-6]])
        rows = ("E.", ".S")
        self.assertEqual(after(rows, [], do(DOWN), do(RIGHT)), [[-6], [-6]])

    def test_no_move_from_one_row_to_the_next(self):
        self.assertEqual(after((".S", "E."), [], do(RIGHT)), [[-6]])
        self.assertEqual(after((".E", "S."), [], do(LEFT)), [[-6]])

    def test_wall_in_each_direction(self):
        for act in MOVES:
            found = ask(around({beside(act): 0}), do(act), HERE)
            self.assertEqual(found[1:], [[-6], [0, 2, 2, 0, 0, 0, 2, 0, 0]])

    def test_free_cells_are_come_to_and_left_in_each_direction(self):
        for code in (1, 4, 6, 7, 9, 11, 12, 13, 14):
            for act in MOVES:
                for then in MOVES:
                    found = ask(around({beside(act): code}), do(act), do(then))
                    cell = beside(act)
                    self.assertEqual(found[1], [0, cell[0], cell[1], 0], (code, act))
                    cell = beside(then, cell)
                    self.assertEqual(found[2], [0, cell[0], cell[1], 0], (code, act, then))

    def test_the_start_is_come_to_again(self):
        for act in MOVES:
            self.assertEqual(last(around({}), do(act), do(opposite(act))), [0, 2, 2, 0])

    def test_stairs_end_the_game_from_each_direction(self):
        for act in MOVES:
            x, y = beside(act)
            found = ask(around({(x, y): 3}), do(act), *[do(then) for then in range(5)], HERE)
            self.assertEqual(found[1], [0, x, y, 1])
            self.assertEqual(found[2:7], [[-7]] * 5)
            self.assertEqual(found[7][:5], [0, x, y, 1, 1])

    def test_shut_cells_from_each_direction(self):
        for code in (5, 8, 10, 15, 16, 17):
            for act in MOVES:
                found = ask(around({beside(act): code}), do(act), HERE)
                self.assertEqual(found[1], [-6], (code, act))
                self.assertEqual(found[2][:5], [0, 2, 2, 0, 0], (code, act))


class Keys(unittest.TestCase):
    def test_each_key_is_marked_and_stays_so(self):
        for sign in "krgb":
            rows = ("S" + sign + "E", "...")
            first = after(rows, [RIGHT], HERE)[0]
            again = after(rows, [RIGHT, DOWN, UP], HERE)[0]
            self.assertEqual(marks_here(first), [1, 0, 0], sign)
            self.assertEqual(marks_here(again), [1, 0, 0], sign)
            self.assertEqual(first[5], 1 if sign == "k" else 0)
            self.assertEqual(again[5], first[5])

    def test_only_the_key_come_to_is_marked(self):
        found = after(("Srr", "rE."), [DOWN], HERE)[0]
        self.assertEqual(marks_here(found), [0, 0, 1, 0, 0])


class Locks(unittest.TestCase):
    def test_with_a_small_key_in_each_direction(self):
        for act in MOVES:
            behind = beside(act, beside(act))
            found = ask(
                around({beside(opposite(act)): 4, beside(act): 5}),
                do(opposite(act)), do(act), do(act), HERE, do(act), HERE)
            x, y = beside(act)
            self.assertEqual(found[3], [0, x, y, 0])
            self.assertEqual(found[4][5:], [0, 4, 1, 1, 0, 0])
            self.assertEqual(found[5], [0, behind[0], behind[1], 0])
            self.assertEqual(found[6][5:], [0, 4, 1, 1, 0, 0])

    def test_opened_already_from_each_direction_without_a_small_key(self):
        for act in MOVES:
            for then in MOVES:
                # To the key, to the lock, from the lock to one side and back.
                acts = [opposite(act), act, act, then, opposite(then)]
                found = ask(
                    around({beside(opposite(act)): 4, beside(act): 5}), *[do(one) for one in acts], HERE)
                x, y = beside(act)
                self.assertEqual(found[5], [0, x, y, 0], (act, then))
                self.assertEqual(found[6][4:], [5, 0, 4, 1, 1, 0, 0])

    def test_a_small_key_is_used_up(self):
        found = after(("SkooE", "....."), [RIGHT, RIGHT], do(RIGHT), HERE)
        self.assertEqual(found, [[-6], [0, 2, 0, 0, 2, 0, 5, 1, 1, 0, 0, 0]])

    def test_a_taken_key_is_not_taken_twice(self):
        found = after(("SkooE", "....."), [RIGHT, LEFT, RIGHT, RIGHT], do(RIGHT))
        self.assertEqual(found, [[-6]])

    def test_an_opened_lock_takes_no_second_key(self):
        found = after(("SkkooE", "......"), [RIGHT, RIGHT, RIGHT, LEFT, RIGHT], HERE, do(RIGHT), HERE)
        self.assertEqual(found[0][5:], [1, 6, 1, 1, 1, 0, 0, 0])
        self.assertEqual(found[1], [0, 4, 0, 0])
        self.assertEqual(found[2][5:], [0, 6, 1, 1, 1, 1, 0, 0])

    def test_keys_of_a_colour_open_no_lock(self):
        self.assertEqual(after(("SroE", "#gb#"), [RIGHT, DOWN, RIGHT], do(UP)), [[-6]])


class LeversAndGates(unittest.TestCase):
    def test_pull_turns_on_and_off(self):
        for sign, on in (("A", [1, 0]), ("B", [0, 1])):
            rows = ("S" + sign + "E", "###")
            found = after(rows, [RIGHT], do(PULL), HERE, do(PULL), HERE, do(PULL), HERE)
            self.assertEqual(found[0::2], [[0, 1, 0, 0]] * 3)
            self.assertEqual([marks_here(answer) for answer in found[1::2]], [on, [0, 0], on])

    def test_two_levers_of_a_kind_turn_the_same(self):
        found = after(("SAAE", "####"), [RIGHT, PULL, RIGHT, PULL], HERE)[0]
        self.assertEqual(found[4:], [4, 0, 2, 0, 0])

    def test_coming_to_a_lever_pulls_nothing(self):
        found = after(("SABE", "####"), [RIGHT, RIGHT], HERE)[0]
        self.assertEqual(marks_here(found), [0, 0])

    def test_pull_marks_nothing_else(self):
        found = after(("SkAE", "##o#"), [RIGHT, RIGHT, PULL], HERE)[0]
        self.assertEqual(found[5:], [1, 4, 1, 0, 1, 0])

    def test_pull_elsewhere(self):
        for code in (1, 4, 9, 11, 12, 13, 14, 18, 19, 21):
            found = ask(around({beside(UP): code}), do(UP), do(PULL), HERE)
            self.assertEqual(found[1], [0, 2, 1, 0], code)
            self.assertEqual(found[2], [-6], code)
            self.assertEqual(found[3][:5], [0, 2, 1, 0, 1])
        self.assertEqual(last(around({}), do(PULL)), [-6])
        self.assertEqual(last(around({beside(UP): 6}), do(PULL)), [-6])

    def test_pull_at_an_opened_gate_door_or_lock(self):
        self.assertEqual(after(("SAmE", "####"), [RIGHT, PULL, RIGHT], do(PULL)), [[-6]])
        self.assertEqual(after(("SrRE", "####"), [RIGHT, RIGHT], do(PULL)), [[-6]])
        self.assertEqual(after(("SkoE", "####"), [RIGHT, RIGHT], do(PULL)), [[-6]])

    def test_the_four_gates_with_both_levers(self):
        # In the middle of each level the start; levers to the left of it and one further.
        opens = {"m": (True, None), "n": (False, None), "p": (None, True), "q": (None, False)}
        for sign, wants in opens.items():
            for turned in ((False, False), (False, True), (True, False), (True, True)):
                acts = [LEFT] + [PULL] * turned[0] + [LEFT] + [PULL] * turned[1] + [RIGHT, RIGHT]
                is_open = all(want is None or want == one for want, one in zip(wants, turned))
                found = after(("BAS" + sign + "E", "#####"), acts, do(RIGHT))
                self.assertEqual(found, [[0, 3, 0, 0] if is_open else [-6]], (sign, turned))

    def test_gates_from_each_direction(self):
        for code, pulls in ((8, 1), (9, 0), (9, 2), (10, 1), (11, 0), (11, 2)):
            lever = 6 if code < 10 else 7
            for act in MOVES:
                for then in MOVES:
                    found = ask(
                        around({beside(act): code, beside(opposite(act)): lever}),
                        do(opposite(act)), *[do(PULL)] * pulls, do(act), do(act), do(then))
                    cell = beside(act)
                    self.assertEqual(found[-2], [0, cell[0], cell[1], 0], (code, act))
                    cell = beside(then, cell)
                    self.assertEqual(found[-1], [0, cell[0], cell[1], 0], (code, act, then))

    def test_gates_shut_in_each_direction(self):
        for code, pulls in ((8, 0), (8, 2), (9, 1), (10, 0), (10, 2), (11, 1)):
            lever = 6 if code < 10 else 7
            for act in MOVES:
                found = ask(
                    around({beside(act): code, beside(opposite(act)): lever}),
                    do(opposite(act)), *[do(PULL)] * pulls, do(act), do(act))
                self.assertEqual(found[-1], [-6], (code, act))


class Doors(unittest.TestCase):
    def test_each_door_with_each_key(self):
        for door, own in zip("RGU", "rgb"):
            for key in "krgb":
                found = after(("S" + key + door + "E", "####"), [RIGHT], do(RIGHT), HERE)
                if key == own:
                    self.assertEqual(found, [[0, 2, 0, 0], [0, 2, 0, 0, 2, 0, 3, 1, 0, 0]])
                else:
                    self.assertEqual(found[0], [-6], (door, key))

    def test_any_key_of_the_colour_and_as_often_as_liked(self):
        found = after(("rSrRRE", "######"), [LEFT, RIGHT, RIGHT, RIGHT, RIGHT, LEFT, RIGHT], HERE)[0]
        self.assertEqual(found, [0, 4, 0, 0, 7, 0, 4, 1, 1, 0, 0])
        self.assertEqual(after(("rSR", "r#E"), [LEFT, RIGHT], do(RIGHT)), [[0, 2, 0, 0]])
        self.assertEqual(after(("RSr", "Er#"), [DOWN, UP], do(LEFT)), [[0, 0, 0, 0]])

    def test_doors_from_each_direction(self):
        for key in (12, 13, 14):
            for act in MOVES:
                for then in MOVES:
                    found = ask(
                        around({beside(act): key + 3, beside(opposite(act)): key}),
                        do(opposite(act)), do(act), do(act), do(then))
                    cell = beside(act)
                    self.assertEqual(found[3], [0, cell[0], cell[1], 0])
                    cell = beside(then, cell)
                    self.assertEqual(found[4], [0, cell[0], cell[1], 0])


class Drops(unittest.TestCase):
    def test_come_to_but_not_against_its_direction(self):
        for act in MOVES:
            for way in MOVES:
                x, y = beside(act)
                expected = [-6] if way == opposite(act) else [0, x, y, 0]
                self.assertEqual(last(around({(x, y): 18 + way}), do(act)), expected, (act, way))

    def test_left_in_its_direction_alone(self):
        for act in MOVES:
            for way in MOVES:
                if way == opposite(act):
                    continue
                cell = beside(act)
                for then in range(5):
                    found = ask(around({cell: 18 + way}), do(act), do(then), HERE)
                    x, y = beside(way, cell)
                    if then == way:
                        self.assertEqual(found[2], [0, x, y, 0])
                    else:
                        self.assertEqual(found[2], [-6], (act, way, then))
                        self.assertEqual(found[3][:5], [0, cell[0], cell[1], 0, 1])

    def test_from_drop_to_drop(self):
        self.assertEqual(after(("S>>E", "####"), [RIGHT], do(RIGHT)), [[0, 2, 0, 0]])
        self.assertEqual(after(("S>v", "#E."), [RIGHT, RIGHT], do(LEFT), do(DOWN)), [[-6], [0, 2, 1, 0]])
        self.assertEqual(after(("S><E", "####"), [RIGHT], do(RIGHT)), [[-6]])
        self.assertEqual(after(("Sv", "E^"), [RIGHT], do(DOWN)), [[-6]])

    def test_onto_a_wall_or_the_edge(self):
        self.assertEqual(after(("S>#", "E.."), [RIGHT], do(RIGHT), do(DOWN)), [[-6], [-6]])
        self.assertEqual(after(("S^", "E."), [RIGHT], do(UP), do(LEFT)), [[-6], [-6]])

    def test_onto_a_shut_cell(self):
        for sign in "ompRGU":
            self.assertEqual(after(("S>" + sign + "E", "####"), [RIGHT], do(RIGHT)), [[-6]], sign)

    def test_onto_stairs(self):
        self.assertEqual(after(("S>E", "###"), [RIGHT], do(RIGHT)), [[0, 2, 0, 1]])


class Refused(unittest.TestCase):
    def test_act_outside(self):
        for wrong in (-HUGE, -1, 5, 6, HUGE):
            found = ask(level("S.", "E."), do(RIGHT), do(wrong), HERE, BACK)
            self.assertEqual(found[2:], [[-1], [0, 1, 0, 0, 1, 0, 2, 0, 0], [0, 0, 0, 0]])

    def test_no_level(self):
        for act in range(5):
            self.assertEqual(ask(do(act), do(act)), [[-2], [-2]])

    def test_range_before_no_level(self):
        self.assertEqual(ask(do(5), do(-1)), [[-1], [-1]])

    def test_range_before_over(self):
        self.assertEqual(after(("SE", "##"), [RIGHT], do(5), do(0)), [[-1], [-7]])

    def test_over_before_what_cannot_be_done(self):
        self.assertEqual(after(("SE", "##"), [RIGHT], do(UP), do(RIGHT), do(PULL)), [[-7]] * 3)

    def test_a_refused_act_is_not_counted(self):
        found = after(("S.", "E."), [RIGHT], do(RIGHT), do(UP), do(PULL), HERE)
        self.assertEqual(found, [[-6], [-6], [-6], [0, 1, 0, 0, 1, 0, 2, 0, 0]])


if __name__ == "__main__":
    unittest.main()
