"""Questions about past days: things as they were at that day's end, whatever was done later."""

import unittest

from tests.helper import (GREATEST_DAY, START, arrive, asked, back, books, cede, custody, destroy, determine, dets,
                          done, extend, find, gather, gathering, give, history, house, inside, lend, log, lose, move,
                          name, overdue, person, rank, split, types, typify, where)


class PastTest(unittest.TestCase):
    def assert_days(self, line, question, expected):
        """Each day's answer is the expected one, asked from the first day to the last and the other way round."""
        days = list(expected)
        answers = [expected[day] for day in days]
        done(line)
        self.assertEqual(asked(line, [question(day) for day in days]), answers)
        self.assertEqual(asked(line, [question(day) for day in reversed(days)]), answers[::-1])

    def assert_where(self, line, sheet, expected):
        self.assert_days(line, lambda day: where(sheet, day), expected)

    def assert_custody(self, line, sheet, expected):
        self.assert_days(line, lambda day: custody(sheet, day), expected)


class TravelPastTest(PastTest):
    LINE = START + [lend(10, 7, 1, 2, 90, 1, [1]), arrive(20, [1]), lend(30, 8, 2, 3, 80, 1, [1]), arrive(40, [1]),
                    back(50, 8, [1]), arrive(60, [1]), back(70, 7, [1]), arrive(80, [1])]

    def test_lent_lent_on_and_sent_back(self):
        self.assert_where(self.LINE, 1, {
            0: [0, 1], 9: [0, 1], 10: [1, 2], 11: [1, 2], 19: [1, 2], 20: [0, 2], 29: [0, 2], 30: [1, 3], 31: [1, 3],
            39: [1, 3], 40: [0, 3], 49: [0, 3], 50: [1, 2], 51: [1, 2], 59: [1, 2], 60: [0, 2], 69: [0, 2], 70: [1, 1],
            79: [1, 1], 80: [0, 1], 81: [0, 1], GREATEST_DAY: [0, 1]})

    def test_custody_of_it(self):
        one = [1, 1, 7, 2, 90]
        two = [1, 2, 7, 2, 90, 8, 3, 80]
        self.assert_custody(self.LINE, 1, {0: [1, 0], 9: [1, 0], 10: one, 11: one, 29: one, 30: two, 31: two, 49: two,
                                           50: one, 51: one, 69: one, 70: [1, 0], 71: [1, 0], GREATEST_DAY: [1, 0]})

    def test_who_has_it_inside(self):
        self.assert_days(self.LINE, lambda day: inside(3, day), {39: [0], 40: [1, 1], 49: [1, 1], 50: [0]})
        self.assert_days(self.LINE, lambda day: inside(2, day), {
            19: [4, 21, 22, 23, 24], 20: [5, 1, 21, 22, 23, 24], 29: [5, 1, 21, 22, 23, 24], 30: [4, 21, 22, 23, 24],
            60: [5, 1, 21, 22, 23, 24], 70: [4, 21, 22, 23, 24]})

    def test_the_books(self):
        self.assert_days(self.LINE, lambda day: books(1, day), {
            0: [5, 8, 0, 0, 0, 0], 9: [5, 8, 0, 0, 0, 0], 10: [5, 7, 1, 0, 0, 0], 69: [5, 7, 1, 0, 0, 0],
            70: [5, 7, 0, 1, 0, 0], 79: [5, 7, 0, 1, 0, 0], 80: [5, 8, 0, 0, 0, 0]})
        self.assert_days(self.LINE, lambda day: books(2, day), {
            19: [5, 4, 0, 0, 0, 0], 20: [5, 4, 0, 0, 0, 1], 30: [5, 4, 0, 0, 0, 0], 60: [5, 4, 0, 0, 0, 1],
            70: [5, 4, 0, 0, 0, 0]})

    def test_lost_and_found(self):
        line = START + [lend(5, 7, 1, 2, 90, 1, [1]), lose(10, [1]), find(20, [1]), lose(30, [1, 2]), find(40, [2])]
        self.assert_where(line, 1, {4: [0, 1], 9: [1, 2], 10: [2, 2], 11: [2, 2], 19: [2, 2], 20: [0, 2], 21: [0, 2],
                                    29: [0, 2], 30: [2, 2], 50: [2, 2]})
        self.assert_where(line, 2, {29: [0, 1], 30: [2, 1], 39: [2, 1], 40: [0, 1]})
        self.assert_days(line, lambda day: books(1, day), {
            9: [5, 7, 1, 0, 0, 0], 10: [5, 7, 0, 0, 1, 0], 20: [5, 7, 1, 0, 0, 0], 30: [5, 6, 0, 0, 2, 0],
            40: [5, 7, 0, 0, 1, 0]})

    def test_given(self):
        line = START + [give(10, 1, 3, [1]), arrive(20, [1]), give(30, 3, 4, [1])]
        self.assert_where(line, 1, {9: [0, 1], 10: [1, 3], 11: [1, 3], 20: [0, 3], 29: [0, 3], 30: [1, 4]})
        self.assert_custody(line, 1, {9: [1, 0], 10: [3, 0], 11: [3, 0], 29: [3, 0], 30: [4, 0], 31: [4, 0]})
        self.assert_days(line, lambda day: books(3, day), {
            9: [5, 0, 0, 0, 0, 0], 10: [5, 0, 0, 1, 0, 0], 20: [5, 1, 0, 0, 0, 0], 30: [5, 0, 0, 0, 0, 0]})

    def test_ceded(self):
        line = START + [lend(5, 7, 1, 2, 90, 1, [1]), arrive(5, [1]), lend(6, 8, 2, 3, 80, 1, [1]), arrive(6, [1]),
                        cede(10, 1), cede(20, 1)]
        both = [1, 2, 7, 2, 90, 8, 3, 80]
        self.assert_custody(line, 1, {5: [1, 1, 7, 2, 90], 6: both, 9: both, 10: [2, 1, 8, 3, 80], 11: [2, 1, 8, 3, 80],
                                      19: [2, 1, 8, 3, 80], 20: [3, 0], 21: [3, 0]})
        self.assert_where(line, 1, {9: [0, 3], 10: [0, 3], 20: [0, 3]})
        self.assert_days(line, lambda day: overdue(day), {10: [0], 81: [0]})

    def test_several_entries_on_one_day(self):
        line = START + [lend(10, 7, 1, 2, 90, 1, [1]), arrive(10, [1]), lend(10, 8, 2, 3, 80, 1, [1]), arrive(10, [1]),
                        back(10, 8, [1]), lose(11, [1]), find(11, [1])]
        self.assert_where(line, 1, {9: [0, 1], 10: [1, 2], 11: [0, 2]})
        self.assert_custody(line, 1, {9: [1, 0], 10: [1, 1, 7, 2, 90]})

    def test_entries_on_the_first_and_the_last_day(self):
        line = START + [lose(0, [1]), find(GREATEST_DAY, [1])]
        self.assert_where(line, 1, {0: [2, 1], 1: [2, 1], GREATEST_DAY - 1: [2, 1], GREATEST_DAY: [0, 1]})

    def test_the_same_day_before_and_after_more_is_done_on_it(self):
        line = START + [lose(5, [1]), where(1, 5), find(5, [1]), where(1, 5), where(1, 4)]
        self.assertEqual(asked(START, line[len(START):]), [[3], [2, 1], [4], [0, 1], [0, 1]])


class MakingPastTest(PastTest):
    def test_before_the_sheet_and_the_gathering_were_there(self):
        line = START + [gather(10, 9, 12, 2, 50), lose(20, [50])]
        for question in (where, custody, name, dets):
            self.assertEqual(asked(line, [question(50, day) for day in (0, 9)]), [[-2], [-2]])
        self.assert_where_from(line, 50, 10, {10: [0, 2], 11: [0, 2], 19: [0, 2], 20: [2, 2]})
        self.assertEqual(asked(line, [gathering(9, day) for day in (0, 9, 10, 11, 20, GREATEST_DAY)]),
                         [[-2], [-2]] + [[2, 50, 0, 51, 0]] * 4)
        self.assertEqual(asked(line, [inside(2, day) for day in (9, 10, 20)]),
                         [[4, 21, 22, 23, 24], [6, 21, 22, 23, 24, 50, 51], [5, 21, 22, 23, 24, 51]])

    def assert_where_from(self, line, sheet, first, expected):
        self.assertEqual(asked(line, [where(sheet, first - 1)]), [[-2]])
        self.assert_where(line, sheet, expected)

    def test_divided(self):
        line = START + [lend(5, 7, 1, 2, 90, 1, [1]), arrive(5, [1]), split(10, 1, 50, 2), back(20, 7, [50])]
        self.assert_where(line, 1, {9: [0, 2], 10: [4, 0], 11: [4, 0], 30: [4, 0]})
        self.assert_custody(line, 1, {9: [1, 1, 7, 2, 90], 10: [1, 0], 11: [1, 0]})
        self.assert_where_from(line, 50, 10, {10: [0, 2], 19: [0, 2], 20: [1, 1]})
        self.assert_where_from(line, 51, 10, {10: [0, 2], 19: [0, 2], 20: [0, 2]})
        self.assert_custody(line, 50, {10: [1, 1, 7, 2, 90], 19: [1, 1, 7, 2, 90], 20: [1, 0]})
        self.assert_days(line, lambda day: gathering(101, day), {
            9: [8, 1, 0, 2, 0, 3, 0, 4, 0, 5, 0, 6, 0, 7, 0, 8, 0],
            10: [9, 2, 0, 3, 0, 4, 0, 5, 0, 6, 0, 7, 0, 8, 0, 50, 0, 51, 0]})

    def test_destroyed(self):
        line = START + [destroy(10, 21)]
        self.assert_where(line, 21, {0: [0, 2], 9: [0, 2], 10: [3, 0], 11: [3, 0], GREATEST_DAY: [3, 0]})
        self.assert_days(line, lambda day: gathering(102, day), {
            9: [4, 21, 0, 22, 0, 23, 0, 24, 0], 10: [3, 22, 0, 23, 0, 24, 0], 11: [3, 22, 0, 23, 0, 24, 0]})
        self.assert_days(line, lambda day: books(2, day), {9: [5, 4, 0, 0, 0, 0], 10: [5, 3, 0, 0, 0, 0]})
        self.assert_days(line, lambda day: inside(2, day), {9: [4, 21, 22, 23, 24], 10: [3, 22, 23, 24]})

    def test_types(self):
        line = START + [typify(10, 3, 70), typify(20, 2, 70), typify(20, 1, 71)]
        self.assert_days(line, lambda day: types(70, day), {0: [0], 9: [0], 10: [1, 3], 11: [1, 3], 19: [1, 3],
                                                            20: [2, 2, 3], 21: [2, 2, 3], GREATEST_DAY: [2, 2, 3]})


class DuePastTest(PastTest):
    LINE = START + [lend(5, 7, 1, 2, 10, 1, [1, 2]), arrive(5, [1, 2]), extend(20, 7, 30), extend(40, 7, 30),
                    extend(50, 7, 60)]

    def test_custody_has_the_due_of_that_day(self):
        for sheet in (1, 2):
            self.assert_custody(self.LINE, sheet, {
                4: [1, 0], 5: [1, 1, 7, 2, 10], 19: [1, 1, 7, 2, 10], 20: [1, 1, 7, 2, 30], 21: [1, 1, 7, 2, 30],
                49: [1, 1, 7, 2, 30], 50: [1, 1, 7, 2, 60], 51: [1, 1, 7, 2, 60]})

    def test_overdue_by_the_due_of_that_day(self):
        self.assert_days(self.LINE, overdue, {
            4: [0], 10: [0], 11: [1, 7, 2], 19: [1, 7, 2], 20: [0], 30: [0], 31: [1, 7, 2], 49: [1, 7, 2], 50: [0],
            60: [0], 61: [1, 7, 2]})

    def test_lent_on_up_to_the_due_of_now_after_the_past_was_asked(self):
        line = self.LINE + [custody(1, 5), overdue(19), lend(50, 8, 2, 3, 60, 1, [1])]
        self.assertEqual(asked(self.LINE, line[len(self.LINE):])[-1], [8])
        line = self.LINE + [custody(1, 5), lend(50, 8, 2, 3, 61, 1, [1])]
        self.assertEqual(asked(self.LINE, line[len(self.LINE):])[-1], [-12])

    def test_extended_twice_on_one_day(self):
        line = START + [lend(5, 7, 1, 2, 10, 1, [1]), extend(5, 7, 11), extend(5, 7, 12)]
        self.assert_custody(line, 1, {4: [1, 0], 5: [1, 1, 7, 2, 12], 6: [1, 1, 7, 2, 12]})


class PersonPastTest(PastTest):
    def test_the_rank_before_and_after(self):
        line = START + [determine(5, 1, 11, 70, 0), rank(10, 11, 9), determine(15, 1, 11, 71, 0), rank(20, 11, 1),
                        determine(25, 1, 11, 72, 0), rank(30, 11, 7)]
        self.assert_days(line, lambda day: name(1, day), {
            4: [0, 0], 5: [70, 5], 6: [70, 5], 10: [70, 5], 14: [70, 5], 15: [71, 9], 16: [71, 9], 20: [71, 9],
            24: [71, 9], 25: [72, 1], 30: [72, 1], 40: [72, 1]})
        self.assert_days(line, lambda day: dets(1, day), {
            5: [1, 5, 11, 70, 0, 5], 15: [2, 5, 11, 70, 0, 0, 15, 11, 71, 0, 9],
            30: [3, 5, 11, 70, 0, 0, 15, 11, 71, 0, 0, 25, 11, 72, 0, 1]})

    def test_moved_before_and_after_a_determination_and_a_gathering(self):
        line = START + [determine(5, 1, 11, 70, 0), gather(5, 9, 11, 1, 50), move(10, 11, 2), gather(15, 8, 11, 1, 60),
                        determine(15, 21, 11, 71, 0), move(20, 11, 3), gather(25, 7, 11, 1, 40), move(30, 11, 4)]
        self.assert_days(line, lambda day: name(1, day), {4: [0, 0], 5: [70, 5], 10: [70, 5], 40: [70, 5]})
        self.assert_days(line, lambda day: name(21, day), {14: [0, 0], 15: [71, 5], 20: [71, 5], 40: [71, 5]})
        self.assert_custody(line, 50, {5: [1, 0], 10: [1, 0], 30: [1, 0]})
        self.assert_custody(line, 60, {15: [2, 0], 20: [2, 0], 30: [2, 0]})
        self.assert_custody(line, 40, {25: [3, 0], 30: [3, 0]})

    def test_moved_and_asked_again_on_one_day(self):
        line = START + [gather(5, 9, 11, 1, 50), move(5, 11, 2), gather(5, 8, 11, 1, 60), rank(5, 11, 2),
                        determine(5, 60, 11, 70, 0)]
        self.assert_custody(line, 50, {5: [1, 0], 6: [1, 0]})
        self.assert_custody(line, 60, {5: [2, 0], 6: [2, 0]})
        self.assert_days(line, lambda day: name(60, day), {5: [70, 2], 6: [70, 2]})

    def test_a_house_put_in_only_after_entries(self):
        line = done(START + [lose(10, [1])])
        self.assertEqual(asked(line, [inside(5, 0), books(5, 0), house(5), inside(5, 0), books(5, 0), inside(5, 10),
                                      inside(1, 0)]),
                         [[-2], [-2], [0], [0], [5, 0, 0, 0, 0, 0], [0], [8, 1, 2, 3, 4, 5, 6, 7, 8]])
        line = done(line + [house(5), give(20, 1, 5, [2]), arrive(20, [2])])
        self.assertEqual(asked(line, [inside(5, day) for day in (0, 19, 20, 21)]), [[0], [0], [1, 2], [1, 2]])

    def test_a_person_put_in_only_after_entries(self):
        line = START + [lose(10, [1]), house(5), person(13, 5, 8), gather(10, 9, 13, 1, 50),
                        determine(10, 50, 13, 70, 0), move(20, 13, 1), rank(20, 13, 2), determine(20, 2, 13, 70, 0),
                        person(14, 1, 3), determine(30, 2, 14, 71, 0)]
        self.assert_custody(line, 50, {10: [5, 0], 20: [5, 0], 30: [5, 0]})
        self.assert_days(line, lambda day: name(50, day), {10: [70, 8], 20: [70, 8]})
        self.assert_days(line, lambda day: name(2, day), {10: [0, 0], 20: [70, 2], 29: [70, 2], 30: [71, 3]})
        self.assert_where(line, 1, {9: [0, 1], 10: [2, 1]})

    def test_names_of_past_days(self):
        line = START + [person(13, 1, 5), determine(5, 1, 11, 70, 0), determine(10, 1, 13, 71, 0),
                        determine(15, 1, 11, 70, 0), determine(20, 1, 13, 70, 3), split(25, 1, 50, 2),
                        determine(30, 50, 11, 72, 3), determine(30, 50, 13, 72, 3)]
        self.assert_days(line, lambda day: name(1, day), {4: [0, 0], 5: [70, 5], 9: [70, 5], 10: [71, 5], 14: [71, 5],
                                                          15: [70, 5], 19: [70, 5], 20: [70, 25], 30: [70, 25]})
        self.assert_days(line, lambda day: name(50, day), {25: [70, 25], 29: [70, 25], 30: [72, 40]})
        self.assertEqual(asked(line, [name(50, 24), name(51, 30)]), [[-2], [70, 25]])
        self.assertEqual([answer[:3] for answer in asked(line, [gathering(101, day) for day in (4, 5, 10, 20, 25)])],
                         [[8, 1, 0], [8, 1, 70], [8, 1, 71], [8, 1, 70], [9, 2, 0]])
        self.assertEqual([answer[-4:] for answer in asked(line, [gathering(101, day) for day in (25, 29, 30)])],
                         [[50, 70, 51, 70], [50, 70, 51, 70], [50, 72, 51, 70]])


class EdgeTest(PastTest):
    def test_days_later_than_the_last_entry_s(self):
        line = START + [lose(7, [1])]
        self.assert_where(line, 1, {6: [0, 1], 7: [2, 1], 8: [2, 1], 1000: [2, 1], GREATEST_DAY: [2, 1]})

    def test_one_beyond_the_edges(self):
        for question in (where, custody, name, dets, inside, books, types):
            self.assertEqual(asked(START, [question(1, -1), question(1, GREATEST_DAY + 1)]), [[-1], [-1]])
            for day in (0, GREATEST_DAY):
                self.assertGreaterEqual(asked(START, [question(1, day)])[0][0], 0)
        self.assertEqual(asked(START, [gathering(101, day) for day in (-1, GREATEST_DAY + 1)]), [[-1], [-1]])
        self.assertEqual([answer[0] for answer in asked(START, [gathering(101, 0), gathering(101, GREATEST_DAY)])],
                         [8, 8])
        self.assertEqual(asked(START, [overdue(day) for day in (-1, 0, GREATEST_DAY, GREATEST_DAY + 1)]),
                         [[-1], [0], [0], [-1]])

    def test_entries_after_the_past_was_asked_go_on_from_now(self):
        line = START + [lend(10, 7, 1, 2, 90, 1, [1]), where(1, 0), custody(1, 9), inside(1, 5), arrive(10, [1]),
                        where(1, 10), log(), history(1)]
        self.assertEqual(asked(START, line[len(START):])[-4:], [[4], [0, 2], [4, 10], [3, 1, 3, 4]])


if __name__ == "__main__":
    unittest.main()
