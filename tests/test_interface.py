"""The interface: how calls and answers stand in their lists, and that nothing is changed, kept or printed."""

import contextlib
import io
import unittest

from sheetslent.houses import answers
from tests.helper import (GREATEST_NUMBER, LEAST_NUMBER, START, arrive, back, books, cede, custody, destroy, determine,
                          dets, extend, find, gather, gathering, give, history, house, inside, lend, log, lose, move,
                          name, overdue, rank, split, types, typify, where)

LINE = START + [move(1, 11, 2), rank(1, 11, 9), gather(1, 7, 11, 1, 50), split(1, 50, 51, 2),
                lend(2, 1, 1, 3, 9, 1, [1, 2]), arrive(2, [1, 2]), back(2, 1, [1]), arrive(2, []),
                give(2, 1, 2, [3]), cede(2, 2), extend(2, 1, 9), lose(2, [4]), find(2, [4])]
ANSWERS = [0, 0, 0, 0, 0, 0, 1, 2, 3, 4, 5, 6, 7, 8, 9, -2, 10, 11, -3, 12, 13]

# What stands behind the answers of LINE for each call behind it: how many numbers are answered, then these.
BEHIND = (
    (destroy(3, 51), [1, 14]),
    (destroy(3, 51), [1, -3]),
    (determine(3, 21, 12, 70, 1), [1, 15]),
    (determine(3, 21, 11, 71, 0), [1, 16]),
    (determine(3, 21, 11, 71, 4), [1, -7]),
    (typify(3, 22, 70), [1, 17]),
    (typify(3, 22, 70), [1, -5]),
    (lend(3, 2, 2, 3, 9, 1, [23]), [1, 18]),
    (where(23, 3), [2, 1, 3]),
    (where(51, 3), [2, 3, 0]),
    (where(99, 3), [1, -2]),
    (where(99, -1), [1, -1]),
    (custody(23, 3), [5, 2, 1, 2, 3, 9]),
    (custody(24, 3), [2, 2, 0]),
    (custody(99, 3), [1, -2]),
    (name(21, 3), [2, 71, 9]),
    (name(22, 3), [2, 0, 0]),
    (name(22, -1), [1, -1]),
    (dets(21, 3), [11, 2, 3, 12, 70, 1, 6, 3, 11, 71, 0, 9]),
    (dets(22, 3), [1, 0]),
    (dets(99, 3), [1, -2]),
    (inside(2, 3), [5, 4, 21, 22, 24, 52]),
    (inside(4, 3), [1, 0]),
    (inside(5, 3), [1, -2]),
    (books(4, 3), [6, 5, 0, 0, 0, 0, 0]),
    (books(5, 3), [1, -2]),
    (overdue(10), [3, 1, 2, 1]),
    (overdue(9), [1, 0]),
    (overdue(-1), [1, -1]),
    (gathering(102, 3), [9, 4, 21, 71, 22, 0, 23, 0, 24, 0]),
    (gathering(7, 3), [3, 1, 52, 0]),
    (gathering(8, 3), [1, -2]),
    (types(70, 3), [2, 1, 22]),
    (types(71, 3), [1, 0]),
    (types(71, -1), [1, -1]),
    (history(21), [4, 3, 2, 15, 16]),
    (history(99), [1, -1]),
    (log(), [2, 18, 3]),
)


LONG_LINE = LINE + [call for call, answer in BEHIND]


def flat(calls):
    return [number for call in calls for number in call]


class UnchangeableList(list):
    """A list that fails at once when something in it is changed, also for a while."""

    def refuse(self, *given, **named):
        raise AssertionError("what is handed in was changed")

    append = clear = extend = insert = pop = remove = reverse = sort = refuse
    __setitem__ = __delitem__ = __iadd__ = __imul__ = refuse


class InterfaceTest(unittest.TestCase):
    def test_each_answer_has_how_many_numbers_ahead_of_it(self):
        self.assertEqual(answers(flat(LINE)), flat([[1, answer] for answer in ANSWERS]))

    def test_how_many_numbers_each_of_the_later_calls_answers(self):
        given = answers(flat(LONG_LINE))[2 * len(LINE):]
        at = 0
        for call, answer in BEHIND:
            self.assertEqual((call, given[at:at + len(answer)]), (call, answer))
            at += len(answer)
        self.assertEqual(at, len(given))

    def test_each_call_as_the_only_one(self):
        alone = {0: 0, 1: -2, 2: -2, 3: -2, 4: -4, 5: -2, 6: -4, 7: -3, 8: -3, 9: -2, 10: -2, 11: -2, 12: -3, 13: -3,
                 14: -2, 15: -2, 16: -2, 17: -2, 18: -2, 19: -2, 20: -2, 21: -2, 22: -2, 23: 0, 24: -2, 25: 0, 26: -1}
        calls = [house(1), [1, 1, 1, 1], move(1, 1, 1), rank(1, 1, 1), gather(1, 1, 1, 1, 1), split(1, 1, 1, 2),
                 lend(1, 1, 1, 2, 1, 1, [1]), arrive(1, [1]), back(1, 1, [1]), give(1, 1, 2, [1]), cede(1, 1),
                 extend(1, 1, 1), lose(1, [1]), find(1, [1]), destroy(1, 1), determine(1, 1, 1, 1, 1), typify(1, 1, 1),
                 where(1, 1), custody(1, 1), name(1, 1), dets(1, 1), inside(1, 1), books(1, 1), overdue(1),
                 gathering(1, 1), types(1, 1), history(1)]
        self.assertEqual([call[0] for call in calls], list(alone))
        for call in calls:
            with self.subTest(call=call):
                self.assertEqual(answers(call), [1, alone[call[0]]])
                self.assertEqual(answers(call + [0, 7]), [1, alone[call[0]], 1, 0])
        self.assertEqual(answers([27]), [2, 0, 0])

    def test_the_least_and_the_greatest_numbers(self):
        for number in (LEAST_NUMBER, GREATEST_NUMBER):
            calls = [destroy(number, number), determine(number, number, number, number, number),
                     typify(number, number, number), where(number, number), custody(number, number),
                     name(number, number), dets(number, number), inside(number, number), books(number, number),
                     overdue(number), gathering(number, number), types(number, number), history(number)]
            self.assertEqual(answers(flat(calls)), [1, -1] * len(calls))

    def test_one_call(self):
        self.assertEqual(answers([0, 5]), [1, 0])
        self.assertEqual(answers([0, 0]), [1, -1])
        self.assertEqual(answers([7, 0, 0]), [1, -2])

    def test_lists_of_each_length_are_walked_over(self):
        for length in range(17):
            sheets = list(range(1, length + 1))
            for call in (lend(0, 1, 1, 2, 9, 0, sheets), arrive(0, sheets), back(0, 1, sheets),
                         give(0, 1, 2, sheets), lose(0, sheets), find(0, sheets)):
                given = answers(call + [0, 5] + call + [0, 5])
                self.assertEqual((len(given), given[3], given[7]), (8, 0, -2))

    def test_answers_are_whole_numbers_in_a_list(self):
        given = answers(flat(LONG_LINE))
        self.assertIs(type(given), list)
        self.assertEqual({type(number) for number in given}, {int})

    def test_what_is_handed_in_is_the_same_afterwards(self):
        calls = flat(LONG_LINE)
        answers(calls)
        self.assertEqual(calls, flat(LONG_LINE))
        self.assertEqual(answers(UnchangeableList(calls)), answers(calls))

    def test_the_answers_are_a_list_of_their_own(self):
        calls = flat(LONG_LINE)
        first = answers(calls)
        again = list(first)
        first.append(5)
        self.assertEqual(answers(calls), again)

    def test_two_lines_know_nothing_of_one_another(self):
        first = answers(flat(LONG_LINE))
        self.assertEqual(answers(flat(LONG_LINE)), first)
        self.assertEqual(answers(flat([house(1), log(), where(1, 0), overdue(100), types(70, 3), history(21)])),
                         [1, 0, 2, 0, 0, 1, -2, 1, 0, 1, 0, 1, -1])
        self.assertEqual(answers(flat([house(1), move(0, 11, 1), arrive(0, [1]), extend(0, 1, 9)])),
                         [1, 0, 1, -2, 1, -3, 1, -2])

    def test_a_line_of_four_hundred_calls(self):
        calls = START + [move(0, 11, 1)] * 392
        self.assertEqual(answers(flat(calls)),
                         flat([[1, 0]] * 6 + [[1, number] for number in range(1, 301)] + [[1, -20]] * 94))

    def test_four_hundred_calls_of_entries_and_questions(self):
        calls = list(START)
        expected = [[1, 0]] * 6 + [[1, 1], [1, 2]]
        for day in range(1, 99):
            calls += [determine(day, 1, 11, day, 0), name(1, day), where(1, day // 2), log()]
            expected += [[1, day + 2], [2, day, 5], [2, 0, 1], [2, day + 2, day]]
        self.assertEqual(len(calls), 400)
        self.assertEqual(answers(flat(calls)), flat(expected))

    def test_four_hundred_questions(self):
        self.assertEqual(answers(flat([log()] * 400)), [2, 0, 0] * 400)
        self.assertEqual(answers(flat([where(1, 0)] * 400)), [1, -2] * 400)

    def test_nothing_is_printed(self):
        printed = io.StringIO()
        with contextlib.redirect_stdout(printed), contextlib.redirect_stderr(printed):
            answers(flat(LONG_LINE))
        self.assertEqual(printed.getvalue(), "")


if __name__ == "__main__":
    unittest.main()
