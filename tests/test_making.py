"""Points 5, 6 and 15: gather, split, destroy."""

import unittest

from tests.helper import (GREATEST_KEY, GREATEST_NUMBER, LEAST_NUMBER, START, arrive, asked, back, books, cede, custody,
                          destroy, determine, dets, done, extend, find, gather, gathering, give, holder_of, house,
                          inside, last, lend, log, lose, move, name, numbers, person, picture, rank, split, status_of,
                          types, typify, where)

# 56 sheets, of seven gatherings.
FIFTY_SIX = [house(1), person(11, 1, 5)] + [gather(0, key, 11, 8, key * 10) for key in range(1, 8)]


class GatherTest(unittest.TestCase):
    def test_new_sheets_are_here_and_the_house_s(self):
        line = done([house(3), person(5, 3, 2), gather(4, 9, 5, 3, 70)])
        for sheet in (70, 71, 72):
            self.assertEqual(picture(line, sheet), ("here", 3, [], 3))
        self.assertEqual(numbers(line + [lose(4, [69]), lose(4, [73]), cede(4, 70)])[-3:], [-3, -3, -4])

    def test_the_entry_s_number(self):
        self.assertEqual(numbers(START)[-2:], [1, 2])

    def test_new_sheets_are_of_the_gathering_without_loans_determinations_or_type(self):
        line = done(START + [determine(0, 1, 11, 70, 0), typify(0, 1, 70), gather(4, 9, 11, 2, 70)])
        self.assertEqual(asked(line, [gathering(9, 4)]), [[2, 70, 0, 71, 0]])
        for sheet in (70, 71):
            self.assertEqual(asked(line, [where(sheet, 4), custody(sheet, 4), dets(sheet, 4), name(sheet, 4)]),
                             [[0, 1], [1, 0], [0], [0, 0]])
        self.assertEqual(asked(line, [types(70, 4)]), [[1, 1]])
        self.assertEqual(numbers(line + [typify(4, 70, 70)])[-1], 6)

    def test_the_gathering_s_key_at_the_edges(self):
        keys = [LEAST_NUMBER, -1, 0, 1, GREATEST_KEY, GREATEST_KEY + 1, GREATEST_NUMBER]
        line = START + [gather(0, key, 11, 1, 50 + at) for at, key in enumerate(keys)]
        self.assertEqual(numbers(line)[len(START):], [-2, -2, -2, 3, 4, -2, -2])

    def test_a_key_twice(self):
        self.assertEqual(last(START + [gather(0, 101, 11, 1, 50)]), -3)
        self.assertEqual(last(START + [gather(0, 101, 12, 1, 50)]), -3)

    def test_n_at_the_edges(self):
        for n, answer in ((LEAST_NUMBER, -5), (-1, -5), (0, -5), (1, 3), (8, 3), (9, -5), (GREATEST_NUMBER, -5)):
            with self.subTest(n=n):
                self.assertEqual(last(START + [gather(0, 1, 11, n, 50)]), answer)

    def test_n_sheets_are_made(self):
        for n in range(1, 9):
            line = done(START + [gather(0, 1, 11, n, 50)])
            self.assertEqual([status_of(line, 49 + at) for at in range(n + 2)], ["gone"] + ["here"] * n + ["gone"])

    def test_first_at_the_edges(self):
        cases = ((LEAST_NUMBER, 8, -6), (-1, 3, -6), (0, 2, -6), (1, 1, 1), (GREATEST_KEY, 1, 1),
                 (GREATEST_KEY, 2, -6), (GREATEST_KEY - 1, 2, 1), (GREATEST_KEY - 7, 8, 1), (GREATEST_KEY - 6, 8, -6),
                 (GREATEST_KEY + 1, 1, -6), (GREATEST_NUMBER, 8, -6))
        for first, n, answer in cases:
            with self.subTest(first=first, n=n):
                self.assertEqual(last([house(1), person(11, 1, 5), gather(0, 1, 11, n, first)]), answer)

    def test_the_greatest_key_is_a_sheet_s(self):
        line = done(START + [gather(0, 1, 11, 2, GREATEST_KEY - 1)])
        self.assertEqual(picture(line, GREATEST_KEY), ("here", 1, [], 1))

    def test_keys_of_sheets_that_are_there(self):
        line = START + [gather(0, 1, 11, 2, 24), gather(0, 1, 11, 2, 20), gather(0, 1, 11, 8, 17),
                        gather(0, 1, 11, 1, 22), gather(0, 1, 11, 2, 19), gather(0, 2, 11, 2, 25)]
        self.assertEqual(numbers(line)[-6:], [-7, -7, -7, -7, 3, 4])

    def test_keys_of_divided_destroyed_and_lost_sheets_are_taken(self):
        line = done(START + [split(0, 1, 50, 2), lose(0, [2]), destroy(0, 3)])
        self.assertEqual(last(line + [gather(0, 1, 11, 1, 3)]), -7)
        self.assertEqual(last(line + [split(0, 4, 3, 2)]), -7)
        self.assertEqual(last(line + [gather(0, 1, 11, 1, 1)]), -7)
        self.assertEqual(last(line + [gather(0, 1, 11, 1, 2)]), -7)
        self.assertEqual(last(line + [gather(0, 1, 11, 1, 51)]), -7)

    def test_sixty_sheets_and_one_more(self):
        self.assertEqual(numbers(FIFTY_SIX + [gather(0, 8, 11, 5, 80), gather(0, 8, 11, 4, 80),
                                              gather(0, 9, 11, 1, 90)])[-3:], [-8, 8, -8])

    def test_divided_destroyed_and_lost_sheets_count_among_the_sixty(self):
        line = done(FIFTY_SIX + [split(0, 10, 80, 2), lose(0, [11]), destroy(0, 12)])
        self.assertEqual(last(line + [gather(0, 8, 11, 3, 90)]), -8)
        self.assertEqual(last(line + [gather(0, 8, 11, 2, 90)]), 11)

    def test_refusals_in_their_order(self):
        wrong = [gather(-1, 0, 10, 0, 0), gather(0, 0, 10, 0, 0), gather(0, 1, 10, 0, 0), gather(0, 9, 10, 0, 0),
                 gather(0, 9, 11, 9, 0), gather(0, 9, 11, 5, GREATEST_KEY), gather(0, 9, 11, 5, 77),
                 gather(0, 9, 11, 5, 78), gather(0, 9, 11, 4, 78)]
        self.assertEqual(numbers(FIFTY_SIX + wrong)[-9:], [-1, -2, -3, -4, -5, -6, -7, -8, 8])

    def test_no_key_is_told_ahead_of_a_sheet_s_key(self):
        line = START + [gather(0, 1, 11, 1, GREATEST_KEY), gather(0, 2, 11, 2, GREATEST_KEY)]
        self.assertEqual(numbers(line)[-2:], [3, -6])
        self.assertEqual(last(START + [gather(0, 1, 11, 2, 0)]), -6)

    def test_a_refused_gathering_makes_nothing(self):
        line = START + [gather(5, 1, 11, 4, 20)]
        self.assertEqual(numbers(line + [gather(0, 1, 11, 1, 20)])[-2:], [-7, 3])


LENT_ON = [lend(1, 1, 1, 2, 90, 1, [1, 2]), arrive(1, [1, 2]), lend(2, 2, 2, 3, 80, 1, [1, 2]), arrive(2, [1, 2])]


class SplitTest(unittest.TestCase):
    def test_the_sheet_is_divided(self):
        line = done(START + [split(0, 1, 50, 2)])
        wrong = [split(0, 1, 60, 2), lend(0, 1, 1, 2, 9, 0, [1]), arrive(0, [1]), give(0, 1, 2, [1]), cede(0, 1),
                 lose(0, [1]), find(0, [1]), back(0, 1, [1])]
        self.assertEqual(numbers(line + wrong)[-8:], [-3, -10, -4, -6, -3, -4, -4, -4])

    def test_the_parts_are_as_it_was(self):
        line = done(START + [split(0, 1, 50, 4)])
        self.assertEqual([status_of(line, key) for key in range(49, 55)], ["gone"] + ["here"] * 4 + ["gone"])
        self.assertEqual(picture(line, 53), ("here", 1, [], 1))

    def test_the_parts_have_its_owner(self):
        line = done(START + [give(0, 1, 3, [1]), arrive(0, [1]), move(0, 11, 4), split(0, 1, 50, 2)])
        self.assertEqual(picture(line, 50), ("here", 3, [], 3))

    def test_the_parts_have_its_loans(self):
        line = done(START + LENT_ON + [split(3, 1, 50, 2)])
        for sheet in (50, 51, 2):
            self.assertEqual(picture(line, sheet), ("here", 1, [1, 2], 3))

    def test_the_parts_go_their_own_ways(self):
        line = done(START + LENT_ON + [split(3, 1, 50, 3), back(3, 2, [50]), cede(3, 51)])
        self.assertEqual(picture(line, 50), ("on the way", 1, [1], 2))
        self.assertEqual(picture(line, 51), ("here", 2, [2], 3))
        self.assertEqual(picture(line, 52), ("here", 1, [1, 2], 3))
        self.assertEqual(picture(line, 2), ("here", 1, [1, 2], 3))

    def test_the_divided_sheet_has_no_loans_any_more(self):
        line = done(START + [lend(1, 1, 1, 2, 90, 1, [1]), arrive(1, [1]), split(1, 1, 50, 2)])
        self.assertEqual(last(line + [extend(1, 1, 95)]), 6)
        sent_back = done(line + [back(1, 1, [50, 51])])
        self.assertEqual(last(sent_back + [extend(1, 1, 95)]), -3)

    def test_the_parts_have_its_gathering(self):
        line = done(START + [split(1, 22, 50, 2)])
        self.assertEqual(asked(line, [gathering(102, 1), gathering(101, 1)])[0], [5, 21, 0, 23, 0, 24, 0, 50, 0, 51, 0])
        self.assertEqual(asked(line, [gathering(101, 1)])[0][0], 8)

    def test_the_parts_have_its_determinations(self):
        said = [determine(1, 1, 11, 70, 2), rank(1, 11, 4), determine(1, 1, 11, 71, 0)]
        line = done(START + said + [rank(2, 11, 9), split(2, 1, 50, 2)])
        for sheet in (1, 50, 51):
            self.assertEqual(asked(line, [dets(sheet, 2), name(sheet, 2)]),
                             [[2, 1, 11, 70, 2, 0, 1, 11, 71, 0, 4], [71, 4]])

    def test_what_is_said_of_one_part_is_said_of_it_alone(self):
        line = done(START + [determine(1, 1, 11, 70, 2), split(2, 1, 50, 2), determine(3, 50, 11, 71, 0)])
        self.assertEqual(asked(line, [dets(50, 3), name(50, 3)]), [[2, 1, 11, 70, 2, 0, 3, 11, 71, 0, 5], [71, 5]])
        for sheet in (1, 51):
            self.assertEqual(asked(line, [dets(sheet, 3), name(sheet, 3)]), [[1, 1, 11, 70, 2, 15], [70, 15]])

    def test_where_and_custody_of_the_divided_sheet_and_its_parts(self):
        line = done(START + LENT_ON + [split(3, 1, 50, 2)])
        self.assertEqual(asked(line, [where(1, 3), custody(1, 3)]), [[4, 0], [1, 0]])
        for sheet in (50, 51):
            self.assertEqual(asked(line, [where(sheet, 3), custody(sheet, 3)]), [[0, 3], [1, 2, 1, 2, 90, 2, 3, 80]])

    def test_a_type_is_not_split(self):
        line = done(START + [typify(0, 1, 70), typify(0, 2, 70), lose(0, [2])])
        wrong = [split(0, 1, 50, 2), split(0, 1, 50, 5), split(0, 2, 50, 2), split(0, 3, 50, 2)]
        self.assertEqual(numbers(line + wrong)[-4:], [-4, -4, -3, 6])

    def test_a_part_is_split_again(self):
        line = done(START + [split(0, 1, 50, 2), split(0, 50, 60, 2)])
        self.assertEqual([status_of(line, key) for key in (1, 50, 51, 60, 61)],
                         ["gone", "gone", "here", "here", "here"])

    def test_no_such_sheet(self):
        for sheet in (0, -1, 9, LEAST_NUMBER, GREATEST_NUMBER):
            self.assertEqual(last(START + [split(0, sheet, 50, 2)]), -2)

    def test_it_is_not_here(self):
        for away in (lose(0, [1]), give(0, 1, 2, [1]), lend(0, 1, 1, 2, 9, 0, [1]), split(0, 1, 70, 2),
                     destroy(0, 1)):
            self.assertEqual(numbers(START + [away, split(0, 1, 50, 2)])[-2:], [3, -3])

    def test_n_at_the_edges(self):
        for n, answer in ((LEAST_NUMBER, -5), (-1, -5), (0, -5), (1, -5), (2, 3), (4, 3), (5, -5),
                          (GREATEST_NUMBER, -5)):
            with self.subTest(n=n):
                self.assertEqual(last(START + [split(0, 1, 50, n)]), answer)

    def test_first_at_the_edges(self):
        cases = ((LEAST_NUMBER, 2, -6), (-1, 4, -6), (0, 2, -6), (GREATEST_KEY - 1, 2, 3), (GREATEST_KEY - 1, 3, -6),
                 (GREATEST_KEY, 2, -6), (GREATEST_KEY - 3, 4, 3), (GREATEST_KEY + 1, 2, -6), (GREATEST_NUMBER, 4, -6))
        for first, n, answer in cases:
            with self.subTest(first=first, n=n):
                self.assertEqual(last(START + [split(0, 1, first, n)]), answer)

    def test_the_least_key_as_a_part_s(self):
        line = [house(1), person(11, 1, 5), gather(0, 1, 11, 1, 50), split(0, 50, 1, 2)]
        self.assertEqual(last(line), 2)

    def test_keys_of_sheets_that_are_there(self):
        line = START + [split(0, 1, 1, 2), split(0, 1, 20, 2), split(0, 1, 24, 2), split(0, 1, 25, 2)]
        self.assertEqual(numbers(line)[-4:], [-7, -7, -7, 3])

    def test_sixty_sheets_the_divided_one_among_them(self):
        fifty_eight = done(FIFTY_SIX + [gather(0, 8, 11, 2, 80)])
        self.assertEqual(last(fifty_eight + [split(0, 10, 90, 3)]), -8)
        self.assertEqual(last(fifty_eight + [split(0, 10, 90, 2)]), 9)
        sixty = done(fifty_eight + [split(0, 10, 90, 2)])
        self.assertEqual(last(sixty + [split(0, 11, 95, 2)]), -8)

    def test_refusals_in_their_order(self):
        line = done(FIFTY_SIX + [gather(0, 8, 11, 2, 80), lose(0, [10])])
        wrong = [split(-1, 9, 0, 5), split(0, 9, 0, 5), split(0, 10, 0, 5), split(0, 11, 0, 5),
                 split(0, 11, GREATEST_KEY, 3), split(0, 11, 79, 3), split(0, 11, 90, 3), split(0, 11, 90, 2)]
        self.assertEqual(numbers(line + wrong)[-8:], [-1, -2, -3, -5, -6, -7, -8, 10])

    def test_a_refused_split_changes_nothing(self):
        line = START + [split(9, 1, 24, 2), split(9, 1, 50, 5)]
        self.assertEqual(numbers(line + [split(0, 1, 50, 2)])[-3:], [-7, -5, 3])
        self.assertEqual(holder_of(line, 1), 1)


class DestroyTest(unittest.TestCase):
    def test_the_sheet_is_destroyed(self):
        line = done(START + [destroy(3, 1)])
        self.assertEqual(last(line), 3)
        self.assertEqual(asked(line, [where(1, 3), custody(1, 3), where(2, 3)]), [[3, 0], [1, 0], [0, 1]])
        self.assertEqual(asked(line, [inside(1, 3), books(1, 3)]), [[7, 2, 3, 4, 5, 6, 7, 8], [5, 7, 0, 0, 0, 0]])
        self.assertEqual(asked(line, [gathering(101, 3)]), [[7, 2, 0, 3, 0, 4, 0, 5, 0, 6, 0, 7, 0, 8, 0]])

    def test_nothing_is_done_with_a_destroyed_sheet(self):
        line = done(START + [destroy(0, 1)])
        wrong = [split(0, 1, 60, 2), lend(0, 1, 1, 2, 9, 0, [1]), arrive(0, [1]), back(0, 1, [1]),
                 give(0, 1, 2, [1]), cede(0, 1), lose(0, [1]), find(0, [1]), destroy(0, 1),
                 determine(0, 1, 11, 70, 0), typify(0, 1, 70)]
        self.assertEqual(numbers(line + wrong)[-11:], [-3, -10, -4, -4, -6, -3, -4, -4, -3, -4, -3])
        self.assertEqual(last(line + [lend(0, 1, 1, 2, 9, 0, [2, 1])]), -10)

    def test_what_was_said_of_it_stays(self):
        line = done(START + [determine(1, 1, 11, 70, 1), destroy(2, 1)])
        self.assertEqual(asked(line, [name(1, 2), dets(1, 2)]), [[70, 10], [1, 1, 11, 70, 1, 10]])

    def test_it_can_be_destroyed_when_its_loan_is_over(self):
        loan = [lend(0, 1, 1, 2, 9, 0, [1]), arrive(0, [1])]
        self.assertEqual(last(done(START + loan + [back(0, 1, [1]), arrive(0, [1]), destroy(0, 1)])), 7)
        ceded = done(START + loan + [cede(0, 1), destroy(0, 1)])
        self.assertEqual(asked(ceded, [where(1, 0), custody(1, 0)]), [[3, 0], [2, 0]])

    def test_no_such_sheet(self):
        for sheet in (0, -1, 9, 101, LEAST_NUMBER, GREATEST_NUMBER):
            self.assertEqual(last(START + [destroy(0, sheet)]), -2)

    def test_it_is_not_here(self):
        for away in (lose(0, [1]), give(0, 1, 2, [1]), lend(0, 1, 1, 2, 9, 0, [1]), split(0, 1, 70, 2)):
            self.assertEqual(numbers(START + [away, destroy(0, 1)])[-2:], [3, -3])

    def test_it_has_loans(self):
        self.assertEqual(last(START + LENT_ON + [destroy(2, 1)]), -4)
        self.assertEqual(last(START + LENT_ON[:2] + [destroy(2, 1)]), -4)

    def test_it_is_a_type(self):
        line = done(START + [typify(0, 1, 70)])
        self.assertEqual(numbers(line + [destroy(0, 1), destroy(0, 2)])[-2:], [-5, 4])

    def test_refusals_in_their_order(self):
        line = done(START + [typify(0, 1, 70), typify(0, 2, 70), typify(0, 3, 70), lend(0, 1, 1, 2, 9, 0, [1, 2]),
                             arrive(0, [2])])
        wrong = [destroy(-1, 99), destroy(0, 99), destroy(0, 1), destroy(0, 2), destroy(0, 3), destroy(0, 4)]
        self.assertEqual(numbers(line + wrong)[-6:], [-1, -2, -3, -4, -5, 8])

    def test_a_refused_destroy_changes_nothing(self):
        line = START + LENT_ON + [destroy(9, 1)]
        self.assertEqual(asked(line, [where(1, 9), custody(1, 9), log()]),
                         [[0, 3], [1, 2, 1, 2, 90, 2, 3, 80], [6, 2]])


if __name__ == "__main__":
    unittest.main()
