"""The interface: how calls and answers stand in their lists, and that nothing is changed, kept or printed."""

import contextlib
import io
import unittest

from sheetslent.houses import answers
from tests.helper import START, arrive, back, cede, extend, find, gather, give, house, lend, lose, move, rank, split

LINE = START + [move(1, 11, 2), rank(1, 11, 9), gather(1, 7, 11, 1, 50), split(1, 50, 51, 2),
                lend(2, 1, 1, 3, 9, 1, [1, 2]), arrive(2, [1, 2]), back(2, 1, [1]), arrive(2, []),
                give(2, 1, 2, [3]), cede(2, 2), extend(2, 1, 9), lose(2, [4]), find(2, [4])]
ANSWERS = [0, 0, 0, 0, 0, 0, 1, 2, 3, 4, 5, 6, 7, 8, 9, -2, 10, 11, -3, 12, 13]


def flat(calls):
    return [number for call in calls for number in call]


class UnchangeableList(list):
    """A list that fails at once when something in it is changed, also for a while."""

    def refuse(self, *given, **named):
        raise AssertionError("what is handed in was changed")

    append = clear = extend = insert = pop = remove = reverse = sort = refuse
    __setitem__ = __delitem__ = __iadd__ = __imul__ = refuse


class InterfaceTest(unittest.TestCase):
    def test_each_answer_has_how_many_numbers_ahead_of_it(self):
        self.assertEqual(answers(flat(LINE)), flat([[1, answer] for answer in ANSWERS]))

    def test_one_call(self):
        self.assertEqual(answers([0, 5]), [1, 0])
        self.assertEqual(answers([0, 0]), [1, -1])
        self.assertEqual(answers([7, 0, 0]), [1, -2])

    def test_lists_of_each_length_are_walked_over(self):
        for length in range(17):
            sheets = list(range(1, length + 1))
            for call in (lend(0, 1, 1, 2, 9, 0, sheets), arrive(0, sheets), back(0, 1, sheets),
                         give(0, 1, 2, sheets), lose(0, sheets), find(0, sheets)):
                given = answers(call + [0, 5] + call + [0, 5])
                self.assertEqual((len(given), given[3], given[7]), (8, 0, -2))

    def test_answers_are_whole_numbers_in_a_list(self):
        given = answers(flat(LINE))
        self.assertIs(type(given), list)
        self.assertEqual({type(number) for number in given}, {int})

    def test_what_is_handed_in_is_the_same_afterwards(self):
        calls = flat(LINE)
        answers(calls)
        self.assertEqual(calls, flat(LINE))
        self.assertEqual(answers(UnchangeableList(calls)), answers(calls))

    def test_the_answers_are_a_list_of_their_own(self):
        calls = flat(LINE)
        first = answers(calls)
        again = list(first)
        first.append(5)
        self.assertEqual(answers(calls), again)

    def test_two_lines_know_nothing_of_one_another(self):
        first = answers(flat(LINE))
        self.assertEqual(answers(flat(LINE)), first)
        self.assertEqual(answers(flat([house(1), move(0, 11, 1), arrive(0, [1]), extend(0, 1, 9)])),
                         [1, 0, 1, -2, 1, -3, 1, -2])

    def test_a_line_of_four_hundred_calls(self):
        calls = START + [move(0, 11, 1)] * 392
        self.assertEqual(answers(flat(calls)),
                         flat([[1, 0]] * 6 + [[1, number] for number in range(1, 301)] + [[1, -20]] * 94))

    def test_nothing_is_printed(self):
        printed = io.StringIO()
        with contextlib.redirect_stdout(printed), contextlib.redirect_stderr(printed):
            answers(flat(LINE))
        self.assertEqual(printed.getvalue(), "")


if __name__ == "__main__":
    unittest.main()
