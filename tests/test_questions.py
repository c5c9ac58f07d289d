"""Points 18, 19, 22 to 25, 27 and 28: where, custody, inside, books, overdue, gathering, history, log."""

import unittest

from tests.helper import (GREATEST_DAY, GREATEST_NUMBER, LEAST_NUMBER, START, arrive, asked, back, books, cede, custody,
                          destroy, determine, dets, done, extend, find, gather, gathering, give, history, house, inside,
                          lend, log, lose, move, name, numbers, overdue, person, rank, split, told, types, typify,
                          where)

NO_DAYS = (LEAST_NUMBER, -1, GREATEST_DAY + 1, GREATEST_NUMBER)
NO_KEYS = (LEAST_NUMBER, -1, 0, 99, GREATEST_NUMBER)

# Sheet 1 went from 1 to 2 to 3, due on 90 and 80, and is here; 2 is on the way to 2; 3 is on the way with a second
# loan, to 4; 4 is lost with a loan; 5 is lost without; 6 is given to 2 and on the way; 7 is divided into 31 and 30,
# 8 destroyed; 21 is lent to 1 and here.
SCATTERED = START + [
    lend(1, 50, 1, 2, 90, 1, [1, 2, 3, 4]), arrive(1, [1, 3, 4]), lend(2, 40, 2, 3, 80, 1, [1]), arrive(2, [1]),
    lend(2, 60, 2, 4, 70, 1, [3]), lose(3, [4, 5]), give(3, 1, 2, [6]), split(3, 7, 30, 2), destroy(3, 8),
    lend(3, 70, 2, 1, 60, 0, [21]), arrive(3, [21])]


class RefusalTest(unittest.TestCase):
    def test_where_custody_name_and_dets(self):
        for question in (where, custody, name, dets):
            for day in NO_DAYS:
                self.assertEqual(asked(START, [question(1, day), question(99, day)]), [[-1], [-1]])
            for sheet in NO_KEYS + (101, 11):
                for day in (0, 5, GREATEST_DAY):
                    self.assertEqual(asked(START, [question(sheet, day)]), [[-2]])
            self.assertGreaterEqual(asked(START, [question(1, GREATEST_DAY)])[0][0], 0)
            self.assertEqual(asked([house(1)], [question(1, 0), question(1, -1)]), [[-2], [-1]])

    def test_inside_and_books(self):
        for question in (inside, books):
            for day in NO_DAYS:
                self.assertEqual(asked(START, [question(1, day), question(99, day)]), [[-1], [-1]])
            for house_key in NO_KEYS + (5, 11):
                for day in (0, GREATEST_DAY):
                    self.assertEqual(asked(START, [question(house_key, day)]), [[-2]])
            self.assertGreaterEqual(asked(START, [question(1, GREATEST_DAY)])[0][0], 0)

    def test_overdue(self):
        for day in NO_DAYS:
            self.assertEqual(asked(SCATTERED, [overdue(day)]), [[-1]])

    def test_gathering(self):
        for day in NO_DAYS:
            self.assertEqual(asked(START, [gathering(101, day), gathering(99, day)]), [[-1], [-1]])
        for key in NO_KEYS + (1,):
            self.assertEqual(asked(START, [gathering(key, 0), gathering(key, GREATEST_DAY)]), [[-2], [-2]])

    def test_a_refused_gathering_is_none(self):
        self.assertEqual(asked(START + [gather(0, 103, 11, 1, 1)], [gathering(103, 0)]), [[-2]])

    def test_history(self):
        for sheet in NO_KEYS + (101, 11):
            self.assertEqual(asked(START, [history(sheet)]), [[-1]])


class WhereTest(unittest.TestCase):
    def test_each_status_and_holder(self):
        expected = {1: [0, 3], 2: [1, 2], 3: [1, 4], 4: [2, 2], 5: [2, 1], 6: [1, 2], 7: [4, 0], 8: [3, 0], 21: [0, 1],
                    22: [0, 2], 30: [0, 1], 31: [0, 1]}
        for sheet, answer in expected.items():
            with self.subTest(sheet=sheet):
                self.assertEqual(asked(SCATTERED, [where(sheet, 3)]), [answer])

    def test_sent_back_it_is_on_the_way_to_the_lender(self):
        line = done(SCATTERED + [back(4, 40, [1])])
        self.assertEqual(asked(line, [where(1, 4)]), [[1, 2]])
        line = done(line + [arrive(5, [1]), back(6, 50, [1])])
        self.assertEqual(asked(line, [where(1, 5), where(1, 6)]), [[0, 2], [1, 1]])

    def test_found_it_is_with_its_holder(self):
        line = done(SCATTERED + [find(4, [4, 5])])
        self.assertEqual(asked(line, [where(4, 4), where(5, 4)]), [[0, 2], [0, 1]])

    def test_lost_on_the_way_back(self):
        line = done(SCATTERED + [back(4, 40, [1]), lose(5, [1])])
        self.assertEqual(asked(line, [where(1, 5), custody(1, 5)]), [[2, 2], [1, 1, 50, 2, 90]])


class CustodyTest(unittest.TestCase):
    def test_owner_and_loans_the_owner_s_first(self):
        expected = {1: [1, 2, 50, 2, 90, 40, 3, 80], 2: [1, 1, 50, 2, 90], 3: [1, 2, 50, 2, 90, 60, 4, 70],
                    4: [1, 1, 50, 2, 90], 5: [1, 0], 6: [2, 0], 7: [1, 0], 8: [1, 0], 21: [2, 1, 70, 1, 60],
                    22: [2, 0], 30: [1, 0]}
        for sheet, answer in expected.items():
            with self.subTest(sheet=sheet):
                self.assertEqual(asked(SCATTERED, [custody(sheet, 3)]), [answer])

    def test_ceded(self):
        line = done(SCATTERED + [cede(4, 1)])
        self.assertEqual(asked(line, [custody(1, 4), where(1, 4)]), [[2, 1, 40, 3, 80], [0, 3]])
        line = done(line + [cede(5, 1)])
        self.assertEqual(asked(line, [custody(1, 5), where(1, 5)]), [[3, 0], [0, 3]])

    def test_sent_back(self):
        line = done(SCATTERED + [back(4, 40, [1])])
        self.assertEqual(asked(line, [custody(1, 4)]), [[1, 1, 50, 2, 90]])

    def test_an_extended_loan_is_due_later_for_each_of_its_sheets(self):
        line = done(SCATTERED + [extend(4, 50, 95)])
        self.assertEqual(asked(line, [custody(sheet, 4) for sheet in (1, 2, 4)]),
                         [[1, 2, 50, 2, 95, 40, 3, 80], [1, 1, 50, 2, 95], [1, 1, 50, 2, 95]])

    def test_three_loans(self):
        line = done(SCATTERED + [lend(4, 10, 3, 4, 80, 0, [1])])
        self.assertEqual(asked(line, [custody(1, 4)]), [[1, 3, 50, 2, 90, 40, 3, 80, 10, 4, 80]])


class InsideTest(unittest.TestCase):
    def test_sheets_that_are_here_with_their_holder(self):
        self.assertEqual(asked(SCATTERED, [inside(key, 3) for key in (1, 2, 3, 4)]),
                         [[3, 21, 30, 31], [3, 22, 23, 24], [1, 1], [0]])

    def test_keys_ascending_whatever_the_order_they_were_made_in(self):
        line = done(START + [gather(0, 1, 12, 2, 60), gather(0, 2, 12, 1, 9), split(0, 22, 10, 2),
                             gather(0, 3, 12, 1, 30), give(0, 1, 2, [8, 3]), arrive(0, [8, 3])])
        self.assertEqual(asked(line, [inside(2, 0)]), [[11, 3, 8, 9, 10, 11, 21, 23, 24, 30, 60, 61]])

    def test_a_house_without_sheets(self):
        self.assertEqual(asked([house(1)], [inside(1, 0)]), [[0]])

    def test_lent_on_to_the_owner(self):
        line = done(START + [lend(0, 1, 1, 2, 9, 1, [1]), arrive(0, [1]), lend(0, 2, 2, 1, 9, 1, [1]), arrive(0, [1])])
        self.assertEqual(asked(line, [inside(1, 0), inside(2, 0)]), [[8, 1, 2, 3, 4, 5, 6, 7, 8], [4, 21, 22, 23, 24]])


class BooksTest(unittest.TestCase):
    def test_all_that_was_scattered(self):
        self.assertEqual(asked(SCATTERED, [books(key, 3) for key in (1, 2, 3, 4)]),
                         [[5, 2, 3, 0, 2, 1], [5, 3, 1, 1, 0, 0], [5, 0, 0, 0, 0, 1], [5, 0, 0, 0, 0, 0]])

    def test_one_sheet_at_a_time(self):
        away = [lend(0, 1, 1, 2, 9, 1, [1])]
        lent = away + [arrive(0, [1])]
        on = lent + [lend(0, 2, 2, 3, 9, 1, [1])]
        cases = {
            "here": ([], [1, 0, 0, 0, 0], [0, 0, 0, 0, 0], [0, 0, 0, 0, 0]),
            "on the way with a loan": (away, [0, 1, 0, 0, 0], [0, 0, 0, 0, 0], [0, 0, 0, 0, 0]),
            "lent": (lent, [0, 1, 0, 0, 0], [0, 0, 0, 0, 1], [0, 0, 0, 0, 0]),
            "on the way with two loans": (on, [0, 1, 0, 0, 0], [0, 0, 0, 0, 0], [0, 0, 0, 0, 0]),
            "lent on": (on + [arrive(0, [1])], [0, 1, 0, 0, 0], [0, 0, 0, 0, 0], [0, 0, 0, 0, 1]),
            "lost with a loan": (lent + [lose(0, [1])], [0, 0, 0, 1, 0], [0, 0, 0, 0, 0], [0, 0, 0, 0, 0]),
            "lost on the way with a loan": (away + [lose(0, [1])], [0, 0, 0, 1, 0], [0, 0, 0, 0, 0], [0, 0, 0, 0, 0]),
            "lost": ([lose(0, [1])], [0, 0, 0, 1, 0], [0, 0, 0, 0, 0], [0, 0, 0, 0, 0]),
            "on the way back": (lent + [back(0, 1, [1])], [0, 0, 1, 0, 0], [0, 0, 0, 0, 0], [0, 0, 0, 0, 0]),
            "back": (lent + [back(0, 1, [1]), arrive(0, [1])], [1, 0, 0, 0, 0], [0, 0, 0, 0, 0], [0, 0, 0, 0, 0]),
            "given": ([give(0, 1, 2, [1])], [0, 0, 0, 0, 0], [0, 0, 1, 0, 0], [0, 0, 0, 0, 0]),
            "given, there": ([give(0, 1, 2, [1]), arrive(0, [1])], [0, 0, 0, 0, 0], [1, 0, 0, 0, 0], [0, 0, 0, 0, 0]),
            "given and lost": ([give(0, 1, 2, [1]), lose(0, [1])], [0, 0, 0, 0, 0], [0, 0, 0, 1, 0], [0, 0, 0, 0, 0]),
            "ceded": (lent + [cede(0, 1)], [0, 0, 0, 0, 0], [1, 0, 0, 0, 0], [0, 0, 0, 0, 0]),
            "ceded with a loan": (on + [arrive(0, [1]), cede(0, 1)], [0, 0, 0, 0, 0], [0, 1, 0, 0, 0], [0, 0, 0, 0, 1]),
            "destroyed": ([destroy(0, 1)], [0, 0, 0, 0, 0], [0, 0, 0, 0, 0], [0, 0, 0, 0, 0]),
            "divided": ([split(0, 1, 50, 2)], [2, 0, 0, 0, 0], [0, 0, 0, 0, 0], [0, 0, 0, 0, 0]),
            "divided with a loan": (lent + [split(0, 1, 50, 3)], [0, 3, 0, 0, 0], [0, 0, 0, 0, 3], [0, 0, 0, 0, 0]),
            "found": (lent + [lose(0, [1]), find(0, [1])], [0, 1, 0, 0, 0], [0, 0, 0, 0, 1], [0, 0, 0, 0, 0]),
        }
        for what, (calls, first, second, third) in cases.items():
            with self.subTest(what=what):
                line = done([house(1), house(2), house(3), person(11, 1, 5), gather(0, 9, 11, 1, 1)] + calls)
                self.assertEqual(asked(line, [books(key, 0) for key in (1, 2, 3)]),
                                 [[5] + first, [5] + second, [5] + third])

    def test_lent_on_to_the_owner(self):
        line = done(START + [lend(0, 1, 1, 2, 9, 1, [1]), arrive(0, [1]), lend(0, 2, 2, 1, 9, 1, [1]), arrive(0, [1])])
        self.assertEqual(asked(line, [books(1, 0), books(2, 0)]), [[5, 7, 1, 0, 0, 1], [5, 4, 0, 0, 0, 0]])

    def test_a_house_without_sheets(self):
        self.assertEqual(asked([house(1)], [books(1, 0), books(1, GREATEST_DAY)]), [[5, 0, 0, 0, 0, 0]] * 2)


class OverdueTest(unittest.TestCase):
    def test_due_on_that_very_day_and_the_days_around_it(self):
        line = done(START + [lend(1, 7, 1, 2, 10, 0, [1, 2])])
        self.assertEqual(asked(line, [overdue(day) for day in (0, 9, 10, 11, GREATEST_DAY)]),
                         [[0], [0], [0], [1, 7, 2], [1, 7, 2]])

    def test_a_loan_due_on_the_last_day_is_never_overdue(self):
        line = done(START + [lend(1, 7, 1, 2, GREATEST_DAY, 0, [1]), lend(1, 8, 1, 2, GREATEST_DAY - 1, 0, [2])])
        self.assertEqual(asked(line, [overdue(GREATEST_DAY)]), [[1, 8, 1]])

    def test_several_loans_in_one_row_and_keys_ascending(self):
        self.assertEqual(asked(SCATTERED, [overdue(day) for day in (60, 61, 71, 81, 90, 91)]),
                         [[0], [1, 70, 1], [2, 60, 1, 70, 1], [3, 40, 1, 60, 1, 70, 1], [3, 40, 1, 60, 1, 70, 1],
                          [4, 40, 1, 50, 4, 60, 1, 70, 1]])

    def test_a_loan_that_no_sheet_has_any_more(self):
        line = done(START + [lend(1, 7, 1, 2, 10, 0, [1, 2]), arrive(2, [1, 2]), back(20, 7, [1]), cede(30, 2)])
        self.assertEqual(asked(line, [overdue(day) for day in (19, 20, 29, 30, 31)]),
                         [[1, 7, 2], [1, 7, 1], [1, 7, 1], [0], [0]])

    def test_a_lost_sheet_s_loan_and_a_divided_one_s(self):
        line = done(START + [lend(1, 7, 1, 2, 10, 0, [1, 2]), arrive(2, [1, 2]), lose(3, [1]), split(12, 2, 50, 3)])
        self.assertEqual(asked(line, [overdue(11), overdue(12)]), [[1, 7, 2], [1, 7, 4]])

    def test_an_extended_loan(self):
        line = done(START + [lend(1, 7, 1, 2, 10, 0, [1]), extend(20, 7, 30)])
        self.assertEqual(asked(line, [overdue(day) for day in (10, 11, 19, 20, 30, 31)]),
                         [[0], [1, 7, 1], [1, 7, 1], [0], [0], [1, 7, 1]])

    def test_before_the_loan_was_made(self):
        line = done(START + [lend(5, 7, 1, 2, 5, 0, [1])])
        self.assertEqual(asked(line, [overdue(day) for day in (4, 5, 6)]), [[0], [0], [1, 7, 1]])

    def test_no_loans_at_all(self):
        self.assertEqual(asked([house(1)], [overdue(0), overdue(GREATEST_DAY)]), [[0], [0]])


class GatheringTest(unittest.TestCase):
    def test_keys_ascending_whatever_the_order_and_names(self):
        line = done(START + [gather(0, 9, 11, 3, 60), split(0, 61, 40, 2), determine(0, 40, 11, 70, 0),
                             determine(0, 62, 11, 71, 3), determine(0, 60, 11, 71, 3), determine(0, 60, 11, 72, 0)])
        self.assertEqual(asked(line, [gathering(9, 0)]), [[4, 40, 70, 41, 0, 60, 72, 62, 71]])

    def test_neither_destroyed_nor_divided(self):
        self.assertEqual(asked(SCATTERED, [gathering(101, 3)]),
                         [[8, 1, 0, 2, 0, 3, 0, 4, 0, 5, 0, 6, 0, 30, 0, 31, 0]])

    def test_whosever_they_are(self):
        self.assertEqual(asked(SCATTERED, [gathering(102, 3)]), [[4, 21, 0, 22, 0, 23, 0, 24, 0]])

    def test_a_gathering_without_sheets_any_more(self):
        line = done(START + [gather(0, 9, 11, 1, 60), destroy(1, 60)])
        self.assertEqual(asked(line, [gathering(9, 0), gathering(9, 1)]), [[1, 60, 0], [0]])

    def test_the_name_that_counts(self):
        line = done(START + [person(13, 1, 5), determine(0, 1, 11, 70, 0), determine(1, 1, 13, 71, 0),
                             determine(2, 1, 11, 70, 0), destroy(2, 2)])
        self.assertEqual([answer[:3] for answer in asked(line, [gathering(101, day) for day in (0, 1, 2)])],
                         [[8, 1, 70], [8, 1, 71], [7, 1, 70]])


# The numbers of the entries that name a sheet; each kind of entry is there.
NAMED = START + [
    lend(1, 50, 1, 2, 90, 1, [1, 2]),  # 3
    arrive(1, [2, 1]),                 # 4
    extend(1, 50, 95),                 # 5
    determine(1, 1, 12, 70, 0),        # 6
    back(2, 50, [1]),                  # 7
    cede(2, 2),                        # 8
    move(3, 11, 2),                    # 9
    rank(3, 11, 1),                    # 10
    lose(3, [1]),                      # 11
    find(3, [1]),                      # 12
    split(3, 1, 90, 3),                # 13
    give(3, 1, 2, [3, 91]),            # 14
    destroy(4, 90),                    # 15
    typify(4, 5, 2),                   # 16
    split(4, 92, 3000, 2),             # 17
    gather(4, 9, 12, 2, 6000),         # 18
    gather(4, 8, 12, 1, 93),           # 19
    gather(4, 7, 12, 1, 6002),         # 20
]


class HistoryTest(unittest.TestCase):
    def test_each_kind_of_entry(self):
        expected = {1: [1, 3, 4, 6, 7, 11, 12, 13], 2: [1, 3, 4, 8], 3: [1, 14], 4: [1], 5: [1, 16], 8: [1],
                    21: [2], 24: [2], 90: [13, 15], 91: [13, 14], 92: [13, 17], 3000: [17], 3001: [17], 6000: [18],
                    6001: [18], 93: [19], 6002: [20]}
        done(NAMED)
        for sheet, entries in expected.items():
            with self.subTest(sheet=sheet):
                self.assertEqual(asked(NAMED, [history(sheet)]), [[len(entries)] + entries])

    def test_numbers_that_are_no_sheet_s_in_an_entry_are_not_taken_for_sheets(self):
        # Days, houses, loans, persons, names and hows that are equal to a sheet's key.
        line = done([house(1), house(2), person(3, 1, 5), gather(4, 5, 3, 8, 1), move(4, 3, 1), rank(5, 3, 6),
                     lend(6, 7, 1, 2, 8, 1, [8]), arrive(6, [8]), extend(7, 7, 8), determine(7, 1, 3, 2, 3),
                     typify(7, 2, 4), back(7, 7, [8]), arrive(8, [8]), give(8, 1, 2, [3]), split(8, 4, 20, 2)])
        expected = {1: [1, 7], 2: [1, 8], 3: [1, 11], 4: [1, 12], 5: [1], 6: [1], 7: [1], 8: [1, 4, 5, 9, 10],
                    20: [12], 21: [12]}
        for sheet, entries in expected.items():
            with self.subTest(sheet=sheet):
                self.assertEqual(asked(line, [history(sheet)]), [[len(entries)] + entries])

    def test_refused_entries_are_not_in_it(self):
        wrong = [lend(9, 1, 1, 2, 8, 0, [1]), arrive(9, [1]), back(9, 1, [1]), give(9, 2, 1, [1]), cede(9, 1),
                 find(9, [1]), determine(9, 1, 12, 70, 0), typify(9, 1, 0), split(9, 1, 1, 2), lose(9, [1, 99]),
                 gather(9, 9, 11, 1, 1), destroy(-1, 1)]
        self.assertTrue(all(answer < 0 for answer in numbers(START + wrong)[len(START):]))
        self.assertEqual(asked(START + wrong, [history(1), log()]), [[1, 1], [2, 0]])
        self.assertEqual(asked(START + wrong + [lose(1, [1])], [history(1)]), [[2, 1, 3]])

    def test_a_sheet_that_is_there_only_now(self):
        self.assertEqual(asked(START, [history(50), split(5, 1, 50, 2), history(50), history(1)]),
                         [[-1], [3], [1, 3], [2, 1, 3]])

    def test_as_many_entries_as_the_log_can_have(self):
        line = START + [determine(0, 1, 11, 70, 0)] * 298
        self.assertEqual(asked(line, [history(1), determine(0, 1, 11, 70, 0), log()]),
                         [[299, 1] + list(range(3, 301)), [-20], [300, 0]])


class LogTest(unittest.TestCase):
    def test_an_empty_log(self):
        self.assertEqual(told([log()]), [[0, 0]])
        self.assertEqual(asked([house(1), person(11, 1, 5), move(7, 11, 2)], [log()]), [[0, 0]])

    def test_how_many_and_the_last_one_s_day(self):
        self.assertEqual(asked(START, [log(), lose(3, [1]), log(), find(3, [1]), log(), lose(8, [1]), log()]),
                         [[2, 0], [3], [3, 3], [4], [4, 3], [5], [5, 8]])

    def test_refused_entries_and_questions_are_not_in_it(self):
        line = START + [lose(9, [99]), lose(GREATEST_DAY + 1, [1]), where(1, 50), overdue(60), log()]
        self.assertEqual(told(line)[-1], [2, 0])


def all_questions(days):
    questions = [log()]
    for day in days:
        questions += [overdue(day), types(70, day), types(0, day), gathering(101, day), inside(1, day), books(1, day),
                      inside(2, day), books(2, day)]
        for sheet in (1, 3, 30):
            questions += [where(sheet, day), custody(sheet, day), name(sheet, day), dets(sheet, day), history(sheet)]
    return questions


class NothingIsChangedTest(unittest.TestCase):
    LINE = SCATTERED + [determine(4, 1, 11, 70, 0), determine(4, 30, 11, 70, 0), typify(4, 31, 70), extend(5, 50, 99),
                        rank(6, 11, 9), determine(6, 30, 11, 71, 0), move(7, 11, 3), determine(7, 1, 11, 72, 0)]

    def test_asked_twice(self):
        questions = all_questions((0, 2, 4, 7, 91, 100))
        answers = asked(self.LINE, questions + questions)
        self.assertEqual(answers[:len(questions)], answers[len(questions):])

    def test_asked_between_entries(self):
        between = [overdue(95), dets(1, 9), custody(1, 2), inside(3, 1), gathering(101, 0), history(1), types(70, 9),
                   where(3, 9), name(1, 3), books(2, 2), log()]
        mixed = []
        for call in self.LINE:
            mixed += [call] + between
        answers = told(mixed)
        self.assertEqual(answers[::len(between) + 1], told(self.LINE))
        questions = all_questions((3, 100))
        self.assertEqual(asked(mixed, questions), asked(self.LINE, questions))

    def test_questions_about_later_days_move_no_day(self):
        line = START + all_questions((GREATEST_DAY,)) + [lose(0, [1])]
        self.assertEqual(told(line)[-1], [3])

    def test_refused_questions_change_nothing(self):
        wrong = [where(99, 0), custody(1, -1), name(99, 0), dets(1, GREATEST_DAY + 1), inside(99, 0), books(99, 0),
                 overdue(-1), gathering(99, 0), types(70, -1), history(99)]
        questions = all_questions((0, 3, 100))
        self.assertEqual(asked(self.LINE + wrong, questions), asked(self.LINE, questions))


if __name__ == "__main__":
    unittest.main()
