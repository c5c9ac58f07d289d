"""Points 8, 10, 13 and 14: arrive, give, lose, find."""

import unittest

from tests.helper import (START, arrive, asked, back, cede, custody, destroy, done, find, give, last, lend, lose,
                          numbers, picture, split, status_of, typify)

EIGHT = [1, 2, 3, 4, 5, 6, 7, 8]
WRONG_LISTS = ([], [1, 1], [1, 2, 3, 1], EIGHT + [21], EIGHT + [1], EIGHT + EIGHT, [99, 99], list(range(31, 47)))
NO_SHEETS = ([99], [1, 99], [99, 1], [0], [-1], [1, -2147483648], [2147483647])

# Sheet 1 is here, 2 on the way to the borrower, 3 lost, 4 divided, 5 on the way to a new owner.
EACH_STATUS = START + [lend(0, 1, 1, 2, 9, 1, [2]), lose(0, [3]), split(0, 4, 50, 2), give(0, 1, 2, [5])]


class ArriveTest(unittest.TestCase):
    def test_lent_sheets_are_with_the_borrower(self):
        line = done(START + [lend(0, 1, 1, 2, 9, 0, [1, 2]), arrive(0, [1])])
        self.assertEqual(picture(line, 1), ("here", 1, [1], 2))
        self.assertEqual(picture(line, 2), ("on the way", 1, [1], 2))

    def test_sheets_from_several_entries(self):
        line = done(START + [lend(0, 1, 1, 2, 9, 0, [1]), give(0, 1, 3, [2]), arrive(0, [2, 1])])
        self.assertEqual(picture(line, 1), ("here", 1, [1], 2))
        self.assertEqual(picture(line, 2), ("here", 3, [], 3))

    def test_after_back(self):
        line = done(START + [lend(0, 1, 1, 2, 9, 0, [1]), arrive(0, [1]), back(0, 1, [1]), arrive(0, [1])])
        self.assertEqual(picture(line, 1), ("here", 1, [], 1))

    def test_the_list_s_form(self):
        line = done(START + [lend(0, 1, 1, 2, 9, 0, EIGHT)])
        for sheets in WRONG_LISTS:
            with self.subTest(sheets=sheets):
                self.assertEqual(last(line + [arrive(0, sheets)]), -2)
        self.assertEqual(last(line + [arrive(0, EIGHT)]), 4)
        self.assertEqual(last(line + [arrive(0, [8])]), 4)

    def test_numbers_that_are_no_sheet_s(self):
        line = done(START + [lend(0, 1, 1, 2, 9, 0, EIGHT)])
        for sheets in NO_SHEETS:
            self.assertEqual(last(line + [arrive(0, sheets)]), -3)

    def test_not_on_the_way(self):
        for sheets, answer in (([1], -4), ([2], 7), ([3], -4), ([4], -4), ([5], 7), ([2, 1], -4), ([1, 2], -4),
                               ([2, 5], 7)):
            with self.subTest(sheets=sheets):
                self.assertEqual(last(done(EACH_STATUS) + [arrive(0, sheets)]), answer)

    def test_refusals_in_their_order(self):
        wrong = [arrive(-1, []), arrive(0, [99, 99]), arrive(0, [99, 1]), arrive(0, [2, 1]), arrive(0, [2])]
        self.assertEqual(numbers(EACH_STATUS + wrong)[-5:], [-1, -2, -3, -4, 7])

    def test_a_refused_arrive_changes_nothing(self):
        line = EACH_STATUS + [arrive(9, [2, 5, 1]), arrive(9, [2, 99])]
        self.assertEqual(numbers(line)[-2:], [-4, -3])
        self.assertEqual([status_of(line, sheet) for sheet in (2, 5)], ["on the way", "on the way"])


class GiveTest(unittest.TestCase):
    def test_the_new_owner(self):
        line = done(START + [give(0, 1, 3, [1, 2])])
        for sheet in (1, 2):
            self.assertEqual(picture(line, sheet), ("on the way", 3, [], 3))
        self.assertEqual(picture(line, 3), ("here", 1, [], 1))

    def test_given_on_after_it_arrived(self):
        line = START + [give(0, 1, 3, [1]), give(0, 3, 4, [1]), arrive(0, [1]), give(0, 1, 4, [1]),
                        give(0, 3, 4, [1])]
        self.assertEqual(numbers(line)[-5:], [3, -6, 4, -6, 5])
        self.assertEqual(picture(line, 1), ("on the way", 4, [], 4))

    def test_the_houses(self):
        for old, new, answer in ((5, 2, -2), (0, 2, -2), (11, 1, -2), (1, 5, -3), (1, 0, -3), (1, 1, -3), (5, 5, -2),
                                 (1, 2, 3), (2, 1, -6)):
            with self.subTest(old=old, new=new):
                self.assertEqual(last(START + [give(0, old, new, [1])]), answer)

    def test_the_list_s_form(self):
        for sheets in WRONG_LISTS:
            with self.subTest(sheets=sheets):
                self.assertEqual(last(START + [give(0, 1, 2, sheets)]), -4)
        self.assertEqual(last(START + [give(0, 1, 2, EIGHT)]), 3)

    def test_numbers_that_are_no_sheet_s(self):
        for sheets in NO_SHEETS:
            self.assertEqual(last(START + [give(0, 1, 2, sheets)]), -5)

    def test_not_here_or_with_loans_or_another_s(self):
        line = done(EACH_STATUS + [lend(0, 2, 1, 3, 9, 1, [6]), arrive(0, [6])])
        for old in (1, 2, 3):
            for sheets in ([2], [3], [4], [5], [6], [1, 6], [6, 1], [1, 21], [21, 1]):
                with self.subTest(old=old, sheets=sheets):
                    self.assertEqual(last(line + [give(0, old, 4, sheets)]), -6)
        self.assertEqual(last(line + [give(0, 1, 4, [1, 7])]), 9)

    def test_a_ceded_sheet_is_given_by_its_new_owner(self):
        line = done(START + [lend(0, 1, 1, 2, 9, 0, [1]), arrive(0, [1]), cede(0, 1)])
        self.assertEqual(numbers(line + [give(0, 1, 3, [1]), give(0, 2, 3, [1])])[-2:], [-6, 6])

    def test_a_type_is_not_given(self):
        line = done(START + [typify(0, 1, 70)])
        for sheets, answer in (([1], -7), ([2, 1], -7), ([1, 2], -7), ([2], 4), ([1, 21], -6), ([21, 1], -6)):
            with self.subTest(sheets=sheets):
                self.assertEqual(last(line + [give(0, 1, 2, sheets)]), answer)
        self.assertEqual(asked(line + [give(0, 1, 2, [2, 1])], [custody(2, 0)]), [[1, 0]])

    def test_refusals_in_their_order(self):
        line = done(START + [typify(0, 1, 70), lose(0, [1])])
        wrong = [give(-1, 9, 9, []), give(0, 9, 9, []), give(0, 1, 9, []), give(0, 1, 2, [99, 99]),
                 give(0, 1, 2, [99, 21]), give(0, 1, 2, [1]), find(0, [1]), give(0, 1, 2, [1]), give(0, 1, 2, [2])]
        self.assertEqual(numbers(line + wrong)[-9:], [-1, -2, -3, -4, -5, -6, 5, -7, 6])

    def test_a_refused_give_changes_nothing(self):
        line = START + [give(9, 1, 2, [1, 21]), give(9, 1, 2, [1, 99])]
        self.assertEqual(numbers(line)[-2:], [-6, -5])
        self.assertEqual(picture(line, 1), ("here", 1, [], 1))


class LoseTest(unittest.TestCase):
    def test_sheets_that_are_here_or_on_the_way(self):
        line = done(EACH_STATUS + [lose(0, [1, 2, 5])])
        self.assertEqual(picture(line, 1), ("lost", 1, [], 1))
        self.assertEqual(picture(line, 2), ("lost", 1, [1], 2))
        self.assertEqual(picture(line, 5), ("lost", 2, [], 2))

    def test_a_lost_sheet_can_not_be_had(self):
        line = done(START + [lend(0, 1, 1, 2, 9, 1, [1]), arrive(0, [1]), lose(0, [1, 2])])
        wrong = [lose(0, [1]), arrive(0, [1]), back(0, 1, [1]), lend(0, 2, 2, 3, 9, 0, [1]), cede(0, 1),
                 split(0, 1, 50, 2), give(0, 1, 2, [2])]
        self.assertEqual(numbers(line + wrong)[-7:], [-4, -4, -4, -10, -3, -3, -6])

    def test_the_list_s_form(self):
        for sheets in WRONG_LISTS:
            with self.subTest(sheets=sheets):
                self.assertEqual(last(START + [lose(0, sheets)]), -2)
        self.assertEqual(last(START + [lose(0, EIGHT)]), 3)

    def test_numbers_that_are_no_sheet_s(self):
        for sheets in NO_SHEETS:
            self.assertEqual(last(START + [lose(0, sheets)]), -3)

    def test_lost_or_divided(self):
        for sheets, answer in (([3], -4), ([4], -4), ([1, 3], -4), ([4, 2], -4), ([1], 7), ([2], 7), ([50], 7)):
            with self.subTest(sheets=sheets):
                self.assertEqual(last(done(EACH_STATUS) + [lose(0, sheets)]), answer)

    def test_refusals_in_their_order(self):
        wrong = [lose(-1, []), lose(0, [99, 99]), lose(0, [99, 3]), lose(0, [1, 3]), lose(0, [1])]
        self.assertEqual(numbers(EACH_STATUS + wrong)[-5:], [-1, -2, -3, -4, 7])

    def test_a_refused_lose_changes_nothing(self):
        line = EACH_STATUS + [lose(9, [1, 2, 3])]
        self.assertEqual([status_of(line, sheet) for sheet in (1, 2, 3)], ["here", "on the way", "lost"])


class FindTest(unittest.TestCase):
    def test_found_with_the_holder(self):
        line = done(EACH_STATUS + [lose(0, [1, 2, 5]), find(0, [5, 2])])
        self.assertEqual(picture(line, 2), ("here", 1, [1], 2))
        self.assertEqual(picture(line, 5), ("here", 2, [], 2))
        self.assertEqual(picture(line, 1), ("lost", 1, [], 1))

    def test_a_destroyed_sheet_neither_arrives_nor_is_lost_or_found(self):
        line = done(START + [destroy(0, 1)])
        self.assertEqual(numbers(line + [arrive(0, [1]), lose(0, [1]), lose(0, [2, 1]), find(0, [1])])[-4:], [-4] * 4)

    def test_lost_and_found_again_and_again(self):
        line = done(START + [lose(0, [1]), find(0, [1]), lose(0, [1]), find(0, [1])])
        self.assertEqual(picture(line, 1), ("here", 1, [], 1))

    def test_the_list_s_form(self):
        line = done(START + [lose(0, EIGHT)])
        for sheets in WRONG_LISTS:
            with self.subTest(sheets=sheets):
                self.assertEqual(last(line + [find(0, sheets)]), -2)
        self.assertEqual(last(line + [find(0, EIGHT)]), 4)

    def test_numbers_that_are_no_sheet_s(self):
        line = done(START + [lose(0, EIGHT)])
        for sheets in NO_SHEETS:
            self.assertEqual(last(line + [find(0, sheets)]), -3)

    def test_not_lost(self):
        for sheets, answer in (([1], -4), ([2], -4), ([3], 7), ([4], -4), ([5], -4), ([3, 1], -4), ([1, 3], -4)):
            with self.subTest(sheets=sheets):
                self.assertEqual(last(done(EACH_STATUS) + [find(0, sheets)]), answer)

    def test_refusals_in_their_order(self):
        wrong = [find(-1, []), find(0, [99, 99]), find(0, [99, 1]), find(0, [3, 1]), find(0, [3])]
        self.assertEqual(numbers(EACH_STATUS + wrong)[-5:], [-1, -2, -3, -4, 7])

    def test_a_refused_find_changes_nothing(self):
        line = EACH_STATUS + [find(9, [3, 1]), find(9, [3, 99])]
        self.assertEqual(numbers(line)[-2:], [-4, -3])
        self.assertEqual(status_of(line, 3), "lost")


if __name__ == "__main__":
    unittest.main()
