"""Points 7, 9, 11 and 12: lend, back, cede, extend."""

import unittest

from tests.helper import (GREATEST_DAY, GREATEST_KEY, GREATEST_NUMBER, LEAST_NUMBER, START, arrive, back, cede, destroy,
                          done, extend, find, gather, give, last, lend, lose, numbers, picture, split, status_of,
                          typify)

EIGHT = [1, 2, 3, 4, 5, 6, 7, 8]
WRONG_LISTS = ([], [1, 1], [1, 2, 3, 1], EIGHT + [21], EIGHT + [1], EIGHT + EIGHT, [99, 99], list(range(31, 47)))

# Sheet 1 went from 1 to 2 to 3 to 4, due on 90, 80, 70; every loan lets lend onward.
THREE_LOANS = [lend(1, 1, 1, 2, 90, 1, [1]), arrive(1, [1]), lend(2, 2, 2, 3, 80, 1, [1]), arrive(2, [1]),
               lend(3, 3, 3, 4, 70, 1, [1]), arrive(3, [1])]


def forty_loans():
    """Sheet 1 lent to house 2 and sent back forty times: 160 entries."""
    line = []
    for loan in range(1, 41):
        line += [lend(0, loan, 1, 2, 0, 0, [1]), arrive(0, [1]), back(0, loan, [1]), arrive(0, [1])]
    return done(START + line)


class LendTest(unittest.TestCase):
    def test_the_sheets_are_on_the_way_to_the_borrower(self):
        line = done(START + [lend(5, 1, 1, 2, 9, 0, [1, 3])])
        for sheet in (1, 3):
            self.assertEqual(picture(line, sheet), ("on the way", 1, [1], 2))
        self.assertEqual(picture(line, 2), ("here", 1, [], 1))

    def test_not_lent_again_before_it_arrives(self):
        line = START + [lend(5, 1, 1, 2, 9, 1, [1]), lend(5, 2, 2, 3, 9, 0, [1]), lend(5, 2, 1, 3, 9, 0, [1]),
                        arrive(5, [1]), lend(5, 2, 1, 3, 9, 0, [1]), lend(5, 2, 2, 3, 9, 0, [1])]
        self.assertEqual(numbers(line)[-6:], [3, -10, -10, 4, -10, 5])

    def test_lent_on_three_times(self):
        self.assertEqual(picture(done(START + THREE_LOANS), 1), ("here", 1, [1, 2, 3], 4))

    def test_lent_on_to_the_owner(self):
        line = done(START + [lend(1, 1, 1, 2, 90, 1, [1]), arrive(1, [1]), lend(1, 2, 2, 1, 90, 1, [1]),
                             arrive(1, [1])])
        self.assertEqual(picture(line, 1), ("here", 1, [1, 2], 1))

    def test_the_loan_s_key_at_the_edges(self):
        cases = ((LEAST_NUMBER, -2), (-1, -2), (0, -2), (1, 3), (GREATEST_KEY, 3), (GREATEST_KEY + 1, -2),
                 (GREATEST_NUMBER, -2))
        for loan, answer in cases:
            with self.subTest(loan=loan):
                self.assertEqual(last(START + [lend(0, loan, 1, 2, 9, 0, [1])]), answer)

    def test_a_loan_s_key_is_never_free_again(self):
        line = done(START + [lend(0, 1, 1, 2, 9, 0, [1]), arrive(0, [1]), back(0, 1, [1]), arrive(0, [1])])
        self.assertEqual(last(line + [lend(0, 1, 1, 2, 9, 0, [1])]), -3)
        ceded = done(START + [lend(0, 1, 1, 2, 9, 0, [1]), arrive(0, [1]), cede(0, 1)])
        self.assertEqual(last(ceded + [lend(0, 1, 1, 2, 9, 0, [2])]), -3)

    def test_a_refused_loan_s_key_stays_free(self):
        self.assertEqual(numbers(START + [lend(0, 1, 1, 2, 9, 0, [99]), lend(0, 1, 1, 2, 9, 0, [1])])[-2:], [-9, 3])

    def test_the_houses(self):
        cases = ((5, 2, -4), (0, 2, -4), (11, 2, -4), (1, 5, -5), (1, 0, -5), (1, 1, -5), (5, 5, -4), (1, 4, 3))
        for lender, borrower, answer in cases:
            with self.subTest(lender=lender, borrower=borrower):
                self.assertEqual(last(START + [lend(0, 1, lender, borrower, 9, 0, [1])]), answer)

    def test_due_at_the_edges(self):
        cases = ((0, LEAST_NUMBER, -6), (0, -1, -6), (0, 0, 3), (7, 6, -6), (7, 7, 3), (7, 8, 3),
                 (0, GREATEST_DAY, 3), (0, GREATEST_DAY + 1, -6), (GREATEST_DAY, GREATEST_DAY, 3),
                 (GREATEST_DAY, GREATEST_DAY - 1, -6), (GREATEST_DAY, GREATEST_NUMBER, -6))
        for day, due, answer in cases:
            with self.subTest(day=day, due=due):
                self.assertEqual(last(START + [lend(day, 1, 1, 2, due, 0, [1])]), answer)

    def test_onward_at_the_edges(self):
        for onward, answer in ((LEAST_NUMBER, -7), (-1, -7), (0, 3), (1, 3), (2, -7), (GREATEST_NUMBER, -7)):
            self.assertEqual(last(START + [lend(0, 1, 1, 2, 9, onward, [1])]), answer)

    def test_the_list_s_form(self):
        for sheets in WRONG_LISTS:
            with self.subTest(sheets=sheets):
                self.assertEqual(last(START + [lend(0, 1, 1, 2, 9, 0, sheets)]), -8)
        self.assertEqual(last(START + [lend(0, 1, 1, 2, 9, 0, EIGHT)]), 3)
        self.assertEqual(last(START + [lend(0, 1, 1, 2, 9, 0, [8, 1])]), 3)

    def test_eight_sheets_are_all_lent(self):
        line = done(START + [lend(0, 1, 1, 2, 9, 0, EIGHT)])
        self.assertEqual([status_of(line, sheet) for sheet in EIGHT], ["on the way"] * 8)

    def test_numbers_that_are_no_sheet_s(self):
        for sheets in ([99], [0], [-1], [1, 99], [99, 1], [LEAST_NUMBER], [GREATEST_NUMBER]):
            self.assertEqual(last(START + [lend(0, 1, 1, 2, 9, 0, sheets)]), -9)

    def test_not_here_or_not_the_lender_s(self):
        line = done(START + [lose(0, [2]), split(0, 3, 50, 2), give(0, 1, 2, [4]), lend(0, 1, 1, 2, 9, 1, [5])])
        for sheets in ([2], [3], [4], [5], [21], [1, 21], [21, 1], [1, 2], [2, 1]):
            with self.subTest(sheets=sheets):
                self.assertEqual(last(line + [lend(0, 2, 1, 2, 9, 0, sheets)]), -10)

    def test_the_owner_does_not_lend_what_another_holds(self):
        line = done(START + [lend(0, 1, 1, 2, 9, 1, [1]), arrive(0, [1])])
        self.assertEqual(last(line + [lend(0, 2, 1, 3, 9, 0, [1])]), -10)
        self.assertEqual(last(line + [lend(0, 2, 3, 1, 9, 0, [1])]), -10)

    def test_only_onward_loans_are_lent_on(self):
        line = done(START + [lend(0, 1, 1, 2, 9, 0, [1]), lend(0, 2, 1, 2, 9, 1, [2]), arrive(0, [1, 2])])
        for sheets, answer in (([1], -11), ([2], 6), ([21], 6), ([2, 1], -11), ([1, 2], -11), ([21, 1], -11),
                               ([2, 21], 6)):
            with self.subTest(sheets=sheets):
                self.assertEqual(last(line + [lend(0, 3, 2, 3, 9, 0, sheets)]), answer)

    def test_the_last_loan_tells_whether_onward(self):
        line = done(START + [lend(0, 1, 1, 2, 9, 1, [1]), arrive(0, [1]), lend(0, 2, 2, 3, 9, 0, [1]),
                             arrive(0, [1])])
        self.assertEqual(last(line + [lend(0, 3, 3, 4, 9, 0, [1])]), -11)

    def test_lent_again_by_the_borrower_after_it_came_back(self):
        line = done(START + [lend(0, 1, 1, 2, 9, 1, [1]), arrive(0, [1]), lend(0, 2, 2, 3, 9, 0, [1]), arrive(0, [1]),
                             back(0, 2, [1]), arrive(0, [1])])
        self.assertEqual(last(line + [lend(0, 3, 2, 4, 9, 0, [1])]), 9)

    def test_not_due_later_than_the_last_loan(self):
        line = done(START + [lend(0, 1, 1, 2, 50, 1, [1]), lend(0, 2, 1, 2, 60, 1, [2]), arrive(0, [1, 2])])
        for due, sheets, answer in ((50, [1], 6), (51, [1], -12), (51, [2], 6), (51, [1, 2], -12), (51, [2, 1], -12),
                                    (50, [2, 1], 6), (61, [2], -12), (60, [2, 21], 6), (GREATEST_DAY, [21], 6),
                                    (51, [21, 1], -12)):
            with self.subTest(due=due, sheets=sheets):
                self.assertEqual(last(line + [lend(0, 3, 2, 3, due, 0, sheets)]), answer)

    def test_only_the_last_loan_s_due_counts(self):
        line = done(START + THREE_LOANS)
        self.assertEqual(last(line + [lend(3, 4, 4, 1, 71, 0, [1])]), -12)
        self.assertEqual(last(line + [lend(3, 4, 4, 1, 70, 0, [1])]), 9)

    def test_an_extended_loan_s_due_counts(self):
        line = done(START + [lend(0, 1, 1, 2, 50, 1, [1]), arrive(0, [1]), extend(0, 1, 55)])
        self.assertEqual(last(line + [lend(0, 2, 2, 3, 56, 1, [1])]), -12)
        self.assertEqual(last(line + [lend(0, 2, 2, 3, 55, 1, [1])]), 6)

    def test_forty_loans_and_one_more(self):
        line = forty_loans()
        self.assertEqual(last(line[:-4] + [lend(0, 41, 1, 2, 0, 0, [1])]), 159)
        self.assertEqual(last(line + [lend(0, 41, 1, 2, 0, 0, [1])]), -13)
        self.assertEqual(status_of(line + [lend(0, 41, 1, 2, 0, 0, [1])], 1), "here")

    def test_refusals_in_their_order(self):
        line = forty_loans()
        line = done(line[:-4] + [lend(0, 40, 1, 2, 5, 0, [2, 3]), arrive(0, [2, 3]), give(0, 1, 2, [4]),
                                 arrive(0, [4])])
        wrong = [lend(-1, 0, 5, 5, -1, 2, []), lend(0, 0, 5, 5, -1, 2, []), lend(0, 1, 5, 5, -1, 2, []),
                 lend(0, 41, 5, 5, -1, 2, []), lend(0, 41, 2, 2, -1, 2, []), lend(0, 41, 2, 3, -1, 2, []),
                 lend(0, 41, 2, 3, 6, 2, []), lend(0, 41, 2, 3, 6, 1, [99, 99]), lend(0, 41, 2, 3, 6, 1, [99, 1, 2]),
                 lend(0, 41, 2, 3, 6, 1, [2, 1]), lend(0, 41, 2, 3, 6, 1, [2]), lend(0, 41, 2, 3, 6, 1, [4])]
        self.assertEqual(numbers(line + wrong)[-12:], [-1, -2, -3, -4, -5, -6, -7, -8, -9, -10, -11, -13])

    def test_due_too_late_is_told_ahead_of_forty_loans(self):
        line = forty_loans()
        line = done(line[:-4] + [lend(0, 40, 1, 2, 5, 1, [2]), arrive(0, [2])])
        self.assertEqual(numbers(line + [lend(0, 41, 2, 3, 6, 1, [2]), lend(0, 41, 2, 3, 5, 1, [2])])[-2:], [-12, -13])

    def test_not_onward_for_one_is_told_ahead_of_due_for_another(self):
        line = done(START + [lend(0, 1, 1, 2, 50, 1, [1]), lend(0, 2, 1, 2, 60, 0, [2]), arrive(0, [1, 2])])
        self.assertEqual(last(line + [lend(0, 3, 2, 3, 55, 0, [1, 2])]), -11)
        self.assertEqual(last(line + [lend(0, 3, 2, 3, 55, 0, [1, 2, 3])]), -10)

    def test_a_refused_loan_changes_no_sheet(self):
        line = START + [lend(9, 1, 1, 2, 9, 0, [1, 2, 21])]
        self.assertEqual(last(line), -10)
        self.assertEqual(picture(line, 1), ("here", 1, [], 1))
        self.assertEqual(numbers(line + [extend(0, 1, 9), lend(0, 1, 1, 2, 9, 0, [1])])[-2:], [-2, 3])


class BackTest(unittest.TestCase):
    def test_the_last_loan_is_taken(self):
        line = done(START + THREE_LOANS + [back(4, 3, [1])])
        self.assertEqual(picture(line, 1), ("on the way", 1, [1, 2], 3))
        line = done(line + [arrive(4, [1]), back(5, 2, [1]), arrive(5, [1])])
        self.assertEqual(picture(line, 1), ("here", 1, [1], 2))
        line = done(line + [back(6, 1, [1])])
        self.assertEqual(picture(line, 1), ("on the way", 1, [], 1))

    def test_only_the_named_sheets_are_sent_back(self):
        line = done(START + [lend(0, 1, 1, 2, 9, 0, [1, 2, 3]), arrive(0, [1, 2, 3]), back(0, 1, [3, 1])])
        self.assertEqual(picture(line, 1), ("on the way", 1, [], 1))
        self.assertEqual(picture(line, 2), ("here", 1, [1], 2))
        self.assertEqual(picture(line, 3), ("on the way", 1, [], 1))

    def test_the_list_s_form(self):
        line = done(START + [lend(0, 1, 1, 2, 9, 0, EIGHT), arrive(0, EIGHT)])
        for sheets in WRONG_LISTS:
            with self.subTest(sheets=sheets):
                self.assertEqual(last(line + [back(0, 1, sheets)]), -2)
        self.assertEqual(last(line + [back(0, 1, EIGHT)]), 5)

    def test_numbers_that_are_no_sheet_s(self):
        line = done(START + [lend(0, 1, 1, 2, 9, 0, [1]), arrive(0, [1])])
        for sheets in ([99], [1, 99], [99, 1], [0]):
            self.assertEqual(last(line + [back(0, 1, sheets)]), -3)

    def test_not_here(self):
        line = done(START + [lend(0, 1, 1, 2, 9, 0, [1, 2, 3]), arrive(0, [2, 3]), lose(0, [2])])
        for sheets in ([1], [2], [3, 1], [1, 3], [2, 3]):
            self.assertEqual(last(line + [back(0, 1, sheets)]), -4)
        self.assertEqual(last(line + [back(0, 1, [3])]), 6)

    def test_without_loans_or_with_another_last_loan(self):
        line = done(START + [lend(0, 1, 1, 2, 9, 1, [1, 2]), arrive(0, [1, 2]), lend(0, 2, 2, 3, 9, 1, [2]),
                             arrive(0, [2])])
        for loan, sheets in ((1, [3]), (1, [2]), (2, [1]), (1, [1, 2]), (2, [1, 2]), (1, [1, 3]), (7, [1]), (0, [1]),
                             (LEAST_NUMBER, [3])):
            with self.subTest(loan=loan, sheets=sheets):
                self.assertEqual(last(line + [back(0, loan, sheets)]), -4)

    def test_refusals_in_their_order(self):
        line = done(START + [lend(0, 1, 1, 2, 9, 1, [1]), arrive(0, [1])])
        wrong = [back(-1, 1, []), back(0, 1, [99, 99]), back(0, 1, [99, 2]), back(0, 1, [2, 1]), back(0, 1, [1])]
        self.assertEqual(numbers(line + wrong)[-5:], [-1, -2, -3, -4, 5])

    def test_a_refused_back_changes_nothing(self):
        line = START + [lend(0, 1, 1, 2, 9, 1, [1, 2]), arrive(0, [1, 2]), back(5, 1, [1, 2, 3])]
        self.assertEqual(last(line), -4)
        for sheet in (1, 2):
            self.assertEqual(picture(line, sheet), ("here", 1, [1], 2))


class CedeTest(unittest.TestCase):
    def test_the_borrower_is_the_owner(self):
        line = done(START + [lend(0, 1, 1, 2, 9, 0, [1, 2]), arrive(0, [1, 2]), cede(0, 1)])
        self.assertEqual(picture(line, 1), ("here", 2, [], 2))
        self.assertEqual(picture(line, 2), ("here", 1, [1], 2))
        self.assertEqual(last(line + [give(0, 2, 3, [1])]), 6)

    def test_the_other_loans_and_the_holder_stay(self):
        line = done(START + THREE_LOANS + [cede(4, 1)])
        self.assertEqual(picture(line, 1), ("here", 2, [2, 3], 4))
        line = done(line + [cede(4, 1)])
        self.assertEqual(picture(line, 1), ("here", 3, [3], 4))
        line = done(line + [cede(4, 1)])
        self.assertEqual(picture(line, 1), ("here", 4, [], 4))
        self.assertEqual(last(line + [cede(4, 1)]), -4)

    def test_no_such_sheet(self):
        for sheet in (0, 9, -1, LEAST_NUMBER, GREATEST_NUMBER):
            self.assertEqual(last(START + [cede(0, sheet)]), -2)

    def test_not_here(self):
        line = done(START + [lend(0, 1, 1, 2, 9, 0, [1, 2, 3]), arrive(0, [2, 3]), lose(0, [2]), split(0, 3, 50, 2)])
        self.assertEqual(numbers(line + [cede(0, 1), cede(0, 2), cede(0, 3), cede(0, 50)])[-4:], [-3, -3, -3, 7])

    def test_refusals_in_their_order(self):
        line = done(START + [lose(0, [1]), lend(0, 1, 1, 2, 9, 0, [3]), arrive(0, [3])])
        wrong = [cede(-1, 99), cede(0, 99), cede(0, 1), cede(0, 2), cede(0, 3)]
        self.assertEqual(numbers(line + wrong)[-5:], [-1, -2, -3, -4, 6])

    def test_a_type_is_not_ceded(self):
        line = done(START + [typify(0, 1, 70), typify(0, 2, 70), typify(0, 3, 70), lend(0, 1, 1, 2, 9, 0, [1, 2, 4]),
                             arrive(0, [2, 4])])
        self.assertEqual(numbers(line + [cede(0, 1), cede(0, 2), cede(0, 3), cede(0, 4)])[-4:], [-3, -5, -4, 8])
        self.assertEqual(picture(line + [cede(0, 2)], 2), ("here", 1, [1], 2))

    def test_a_destroyed_sheet_is_neither_ceded_nor_lent_nor_sent_back(self):
        line = done(START + [destroy(0, 1)])
        self.assertEqual(numbers(line + [cede(0, 1), lend(0, 1, 1, 2, 9, 0, [1]), back(0, 1, [1])])[-3:], [-3, -10, -4])

    def test_a_refused_cede_changes_nothing(self):
        line = START + [lend(0, 1, 1, 2, 9, 0, [1]), cede(5, 1), cede(5, 2)]
        self.assertEqual(numbers(line)[-2:], [-3, -4])
        self.assertEqual(picture(line, 1), ("on the way", 1, [1], 2))
        self.assertEqual(picture(line, 2), ("here", 1, [], 1))


class ExtendTest(unittest.TestCase):
    def test_the_loan_is_due_on_that_day(self):
        line = done(START + [lend(0, 1, 1, 2, 50, 1, [1]), arrive(0, [1]), extend(0, 1, 60)])
        self.assertEqual(numbers(line + [extend(0, 1, 59), extend(0, 1, 60), extend(0, 1, 61)])[-3:], [-4, 6, 7])

    def test_other_loans_stay_as_they_were(self):
        line = done(START + [lend(0, 1, 1, 2, 50, 1, [1]), lend(0, 2, 1, 2, 50, 1, [2]), extend(0, 1, 60)])
        self.assertEqual(numbers(line + [extend(0, 2, 50), extend(0, 2, 49)])[-2:], [6, -4])

    def test_no_loan_has_had_that_key(self):
        for loan in (0, -1, 2, LEAST_NUMBER, GREATEST_NUMBER):
            self.assertEqual(last(START + [lend(0, 1, 1, 2, 50, 1, [1]), extend(0, loan, 60)]), -2)

    def test_no_sheet_has_it_now(self):
        lent = START + [lend(0, 1, 1, 2, 50, 1, [1, 2]), arrive(0, [1, 2])]
        line = done(lent + [back(0, 1, [1])])
        self.assertEqual(last(line + [extend(0, 1, 60)]), 6)
        self.assertEqual(last(line + [back(0, 1, [2]), extend(0, 1, 60)]), -3)
        self.assertEqual(last(line + [cede(0, 2), extend(0, 1, 60)]), -3)

    def test_sheets_on_the_way_lent_on_or_lost_have_it(self):
        lent = done(START + [lend(0, 1, 1, 2, 50, 1, [1])])
        self.assertEqual(last(lent + [extend(0, 1, 60)]), 4)
        self.assertEqual(last(lent + [lose(0, [1]), extend(0, 1, 60)]), 5)
        self.assertEqual(last(lent + [arrive(0, [1]), lend(0, 2, 2, 3, 50, 0, [1]), extend(0, 1, 60)]), 6)

    def test_due_at_the_edges(self):
        line = done(START + [lend(9, 1, 1, 2, 50, 1, [1])])
        cases = ((LEAST_NUMBER, -4), (-1, -4), (0, -4), (9, -4), (49, -4), (50, 4), (51, 4), (GREATEST_DAY, 4),
                 (GREATEST_DAY + 1, -4), (GREATEST_NUMBER, -4))
        for due, answer in cases:
            with self.subTest(due=due):
                self.assertEqual(last(line + [extend(9, 1, due)]), answer)

    def test_a_loan_that_is_overdue(self):
        line = done(START + [lend(0, 1, 1, 2, 50, 1, [1])])
        self.assertEqual(numbers(line + [extend(70, 1, 49), extend(70, 1, 55), extend(70, 1, 54)])[-3:], [-4, 4, -4])

    def test_not_beyond_the_loan_right_before_it(self):
        line = done(START + THREE_LOANS)
        for loan, due, answer in ((3, 80, 9), (3, 81, -5), (3, 91, -5), (2, 90, 9), (2, 91, -5), (1, 91, 9),
                                  (1, GREATEST_DAY, 9)):
            with self.subTest(loan=loan, due=due):
                self.assertEqual(last(line + [extend(3, loan, due)]), answer)

    def test_one_after_another(self):
        line = done(START + THREE_LOANS)
        more = [extend(3, 3, 90), extend(3, 2, 90), extend(3, 3, 90), extend(3, 2, 95), extend(3, 1, 95),
                extend(3, 3, 91), extend(3, 2, 95), extend(3, 3, 95), extend(3, 3, 96)]
        self.assertEqual(numbers(line + more)[-9:], [-5, 9, 10, -5, 11, -5, 12, 13, -5])

    def test_some_sheet_of_several(self):
        lent = [lend(0, 1, 1, 2, 50, 1, [1]), lend(0, 2, 1, 2, 60, 1, [2]), arrive(0, [1, 2])]
        for sheets in ([1, 2, 21], [21, 2, 1], [2, 1]):
            line = done(START + lent + [lend(0, 3, 2, 3, 45, 1, sheets)])
            for due, answer in ((50, 7), (51, -5), (60, -5), (61, -5)):
                with self.subTest(sheets=sheets, due=due):
                    self.assertEqual(last(line + [extend(0, 3, due)]), answer)

    def test_only_sheets_that_have_it_now(self):
        lent = [lend(0, 1, 1, 2, 50, 1, [1]), lend(0, 2, 1, 2, 60, 1, [2]), arrive(0, [1, 2]),
                lend(0, 3, 2, 3, 45, 1, [1, 2, 21]), arrive(0, [1, 2, 21])]
        line = done(START + lent + [back(0, 3, [1])])
        self.assertEqual(last(line + [extend(0, 3, 60)]), 9)
        self.assertEqual(last(line + [extend(0, 3, 61)]), -5)
        self.assertEqual(last(line + [arrive(0, [1]), extend(0, 3, 60)]), 10)
        self.assertEqual(last(line + [back(0, 3, [2]), extend(0, 3, GREATEST_DAY)]), 10)

    def test_a_ceded_sheet_s_first_loan_has_none_before_it(self):
        lent = [lend(0, 1, 1, 2, 50, 1, [1, 2]), arrive(0, [1, 2]), lend(0, 2, 2, 3, 45, 1, [1, 2]),
                arrive(0, [1, 2])]
        line = done(START + lent + [cede(0, 1)])
        self.assertEqual(last(line + [extend(0, 2, 51)]), -5)
        self.assertEqual(last(line + [cede(0, 2), extend(0, 2, 51)]), 9)

    def test_the_parts_of_a_divided_sheet(self):
        line = done(START + THREE_LOANS + [split(4, 1, 50, 2)])
        self.assertEqual(last(line + [extend(4, 3, 81)]), -5)
        self.assertEqual(last(line + [back(4, 3, [50]), extend(4, 3, 80)]), 11)
        self.assertEqual(last(line + [cede(4, 50), cede(4, 50), extend(4, 3, 81)]), -5)
        self.assertEqual(last(line + [cede(4, 50), cede(4, 50), cede(4, 51), cede(4, 51), extend(4, 3, 81)]), 14)

    def test_a_loan_in_the_middle_of_the_row(self):
        line = done(START + THREE_LOANS)
        self.assertEqual(numbers(line + [extend(3, 2, 79), extend(3, 2, 90), extend(3, 2, 91)])[-3:], [-4, 9, -5])

    def test_refusals_in_their_order(self):
        line = done(START + [lend(0, 1, 1, 2, 50, 1, [1, 2]), arrive(0, [1, 2]), lend(0, 2, 2, 3, 50, 1, [1]),
                             lend(0, 3, 2, 3, 50, 1, [2]), arrive(0, [2]), back(0, 3, [2])])
        wrong = [extend(-1, 9, -1), extend(0, 9, -1), extend(0, 3, -1), extend(0, 2, GREATEST_DAY + 1),
                 extend(0, 2, 51), extend(0, 2, 50)]
        self.assertEqual(numbers(line + wrong)[-6:], [-1, -2, -3, -4, -5, 9])

    def test_a_refused_extend_changes_nothing(self):
        line = START + THREE_LOANS + [extend(9, 3, 81), extend(9, 3, 69)]
        self.assertEqual(numbers(line)[-2:], [-5, -4])
        self.assertEqual(numbers(line + [extend(3, 3, 70), lend(3, 4, 4, 1, 71, 1, [1])])[-2:], [9, -12])


class LostLoanTest(unittest.TestCase):
    def test_a_lost_sheet_s_loans_stay(self):
        line = done(START + THREE_LOANS + [lose(4, [1]), find(4, [1])])
        self.assertEqual(picture(line, 1), ("here", 1, [1, 2, 3], 4))

    def test_a_gathering_later_has_no_loans(self):
        line = done(START + THREE_LOANS + [gather(4, 1, 11, 1, 50)])
        self.assertEqual(last(line + [cede(4, 50)]), -4)


if __name__ == "__main__":
    unittest.main()
