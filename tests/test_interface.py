import contextlib
import io
import unittest

from helper import (
    AGAIN, BACK, DOWN, HERE, LEAST, PULL, REACH, RIGHT, SPOIL, SPOILT, STATE, THINGS, WAYS, after, ask, do, edit, far,
    level, needed, one_list, steps_of, try_acts)
from locklevels.level import answers


class Examples(unittest.TestCase):
    def test_red_key_and_door(self):
        self.assertEqual(ask(level("SrRE", "####"), LEAST, needed(0)), [[0, 1], [0, 1, 3, 1, 1, 1], [0, 1]])

    def test_small_key_and_lock(self):
        self.assertEqual(ask(level("SkoE", "####"), LEAST), [[0, 2], [0, 1, 3, 1, 1, 1]])

    def test_who_opens_the_other_lock_first(self):
        rows = ("Sko.E", "#o###")
        found = ask(level(*rows), LEAST, SPOILT, SPOIL)
        self.assertEqual(found, [[0, 3], steps_of([1, 1, 1, 1]), [0, 0], [0, 1, 2, 1, 2]])
        self.assertEqual(after(rows, [RIGHT, DOWN], LEAST, far(2, 0), REACH, SPOILT, SPOIL), [
            [0, 0], [0, 0], [0, 3, 3, 0], [0, 1], [0, 1, 0]])


class Form(unittest.TestCase):
    def test_counts_stand_before_the_answers(self):
        calls = one_list([HERE, level("SkoE", "####"), do(1), do(0), HERE, LEAST, far(3, 0), far(3, 3),
                          REACH, BACK, BACK, AGAIN])
        self.assertEqual(answers(calls), [
            1, -2,
            2, 0, 2,
            4, 0, 1, 0, 0,
            1, -6,
            11, 0, 1, 0, 0, 1, 1, 4, 1, 0, 0, 0,
            5, 0, 1, 2, 1, 1,
            5, 0, 1, 2, 1, 1,
            1, -3,
            4, 0, 6, 4, 1,
            4, 0, 0, 0, 0,
            1, -8,
            1, 0])

    def test_counts_stand_before_the_answers_of_the_later_calls(self):
        calls = one_list([STATE, level("SkoE", "####"), SPOILT, SPOIL, needed(1), needed(2), try_acts([1, 0]),
                          try_acts([]), edit(4, 0, 1), edit(2, 1, 5), SPOIL, WAYS, THINGS, do(1), STATE])
        self.assertEqual(answers(calls), [
            1, -2,
            2, 0, 2,
            2, 0, 0,
            2, 0, 0,
            2, 0, 1,
            1, -3,
            5, 0, 1, 1, 0, 0,
            5, 0, 0, 0, 0, 0,
            1, -3,
            1, 0,
            2, 0, 0,
            2, 0, 1,
            11, 0, 9, 1, 0, 4, 2, 0, 5, 2, 1, 5,
            4, 0, 1, 0, 0,
            17, 0, 4, 2, 8, 2, 4, 5, 3, 0, 0, 5, 0, 4, 1, 1, 0, 0])

    def test_no_list_is_told_without_a_row(self):
        self.assertEqual(answers(one_list([level("S#", "#E"), LEAST, far(1, 1)])), [2, 0, 0, 2, 0, 0, 2, 0, 0])
        self.assertEqual(answers(one_list([level("SE", "##"), SPOIL])), [2, 0, 0, 2, 0, 0])

    def test_an_empty_list_is_told_with_an_empty_row(self):
        calls = one_list([level("S#", "#E"), SPOIL, far(0, 0)])
        self.assertEqual(answers(calls), [2, 0, 0, 3, 0, 1, 0, 3, 0, 1, 0])

    def test_each_call_without_a_level(self):
        calls = [do(0), BACK, AGAIN, HERE, LEAST, far(0, 0), REACH, SPOILT, SPOIL, needed(0), try_acts([]),
                 edit(0, 0, 0), WAYS, THINGS, STATE]
        self.assertEqual(answers(one_list(calls)), [1, -2] * 15)

    def test_prints_nothing(self):
        with contextlib.redirect_stdout(io.StringIO()) as printed:
            answers(one_list(Handed.CALLS))
        self.assertEqual(printed.getvalue(), "")

    def test_gives_back_a_list_of_whole_numbers(self):
        calls = one_list([level("SkAE", "####"), do(1), do(1), do(PULL), HERE, LEAST, REACH, do(1), HERE])
        told = answers(calls + one_list(Handed.CALLS))
        self.assertIs(type(told), list)
        self.assertEqual({type(number) for number in told}, {int})

    def test_sixty_calls(self):
        found = ask(level("S.", "E."), *[do(1), do(3)] * 29, HERE)
        self.assertEqual(found[-1], [0, 0, 0, 0, 58, 0, 2, 0, 0])

    def test_sixty_rows_of_the_greatest_length(self):
        calls = one_list([[0, 10, 10, 200] + [1] * 200] * 60)
        self.assertEqual(answers(calls), [1, -1] * 60)
        calls = one_list([level("S.", "E."), *[try_acts([1, 3] * 100)] * 59])
        self.assertEqual(answers(calls), [2, 0, 0] + [5, 0, 200, 0, 0, 0] * 59)


class Unchanged(list):
    """A list that can't be changed, not for a while either."""

    def refuse(self, *values, **named):
        raise AssertionError("what is handed in is changed")

    append = clear = extend = insert = pop = remove = reverse = sort = refuse
    __setitem__ = __delitem__ = __iadd__ = __imul__ = refuse


class Handed(unittest.TestCase):
    CALLS = (level("SkoAmE", "#or.R."), do(1), do(1), HERE, do(1), do(PULL), LEAST, far(4, 1), REACH, SPOILT, SPOIL,
             WAYS, needed(0), needed(3), THINGS, STATE, try_acts([1, 1, 0]), try_acts([5]), BACK, do(DOWN),
             far(9, 9), far(10, 0), do(7), needed(6), HERE, edit(4, 0, 1), edit(0, 0, 1), edit(9, 9, 1),
             edit(1, 0, 12), STATE, THINGS, LEAST, SPOIL, do(1), AGAIN, HERE, edit(1, 0, 4), SPOIL, STATE)

    def test_is_the_same_afterwards(self):
        calls = one_list(self.CALLS)
        kept = list(calls)
        answers(calls)
        self.assertEqual(calls, kept)

    def test_is_not_changed_for_a_while_either(self):
        calls = one_list(self.CALLS)
        self.assertEqual(answers(Unchanged(calls)), answers(calls))

    def test_twice_the_same_answers(self):
        calls = one_list(self.CALLS)
        first = answers(calls)
        self.assertEqual(answers(calls), first)
        self.assertEqual(answers(list(calls)), first)

    def test_no_level_stays_open(self):
        answers(one_list([level("SE", "##"), do(1)]))
        self.assertEqual(answers(HERE), [1, -2])
        self.assertEqual(answers(STATE), [1, -2])

    def test_no_edit_stays(self):
        calls = one_list([level("S.E", "v.."), SPOIL, edit(0, 1, 1), SPOIL, edit(1, 0, 12), STATE])
        first = answers(calls)
        self.assertEqual(answers(calls), first)
        self.assertEqual(answers(one_list([level("S.E", "v.."), SPOIL])), [2, 0, 0, 4, 0, 1, 1, 2])

    def test_what_is_given_back_is_its_own(self):
        calls = one_list([level("SE", "##"), LEAST])
        first = answers(calls)
        kept = list(first)
        first.clear()
        self.assertEqual(answers(calls), kept)

    def test_what_was_handed_in_may_change_later(self):
        calls = one_list([level("SE", "##"), LEAST])
        answers(calls)
        calls[4] = 3
        calls[5] = 2
        self.assertEqual(answers(calls), [2, 0, 0, 4, 0, 1, 1, 3])


if __name__ == "__main__":
    unittest.main()
