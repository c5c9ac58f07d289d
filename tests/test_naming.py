"""Points 16, 17, 20, 21 and 26: determine, type, name, dets, types."""

import unittest

from tests.helper import (GREATEST_DAY, GREATEST_KEY, GREATEST_NUMBER, LEAST_NUMBER, START, arrive, asked, back, cede,
                          destroy, determine, dets, done, find, gather, give, last, lend, log, lose, move, name,
                          numbers, person, picture, rank, split, types, typify, where)

# In house 1 work 11 with the rank 5, 13 with 5, 14 with 1, 15 with 3.
MORE = START + [person(13, 1, 5), person(14, 1, 1), person(15, 1, 3)]
KEYS_AT_THE_EDGES = ((LEAST_NUMBER, False), (-1, False), (0, False), (1, True), (GREATEST_KEY, True),
                     (GREATEST_KEY + 1, False), (GREATEST_NUMBER, False))


def name_after(said):
    """Sheet 1's name and weight after (person, name, how surely) were said of it in that order."""
    line = done(MORE + [determine(0, 1, who, called, conf) for who, called, conf in said])
    return asked(line, [name(1, 0)])[0]


class DetermineTest(unittest.TestCase):
    def test_a_determination_is_put_into_the_row(self):
        line = done(START + [determine(3, 1, 11, 70, 2)])
        self.assertEqual(last(line), 3)
        self.assertEqual(asked(line, [dets(1, 3), name(1, 3)]), [[1, 3, 11, 70, 2, 15], [70, 15]])
        self.assertEqual(asked(line, [dets(2, 3), name(2, 3)]), [[0], [0, 0]])

    def test_it_is_put_at_the_end(self):
        line = done(MORE + [determine(3, 1, 13, 72, 0), determine(3, 1, 11, 71, 1), determine(4, 1, 14, 70, 3)])
        self.assertEqual(asked(line, [dets(1, 4)]), [[3, 3, 13, 72, 0, 5, 3, 11, 71, 1, 10, 4, 14, 70, 3, 4]])

    def test_the_sheet_stays_as_it_was(self):
        self.assertEqual(picture(done(START + [determine(3, 1, 11, 70, 2)]), 1), ("here", 1, [], 1))

    def test_the_rank_is_that_of_the_moment(self):
        line = done(START + [determine(3, 1, 11, 70, 1), rank(3, 11, 9), determine(3, 2, 11, 70, 1), rank(3, 11, 2),
                             determine(3, 3, 11, 70, 1)])
        self.assertEqual(asked(line, [name(sheet, 3) for sheet in (1, 2, 3)]), [[70, 10], [70, 18], [70, 4]])

    def test_a_determination_keeps_its_rank(self):
        line = done(START + [determine(3, 1, 11, 70, 1), rank(3, 11, 9)])
        self.assertEqual(asked(line, [name(1, 3), name(1, 4)]), [[70, 10], [70, 10]])

    def test_a_refused_rank_counts_nothing(self):
        line = START + [rank(3, 11, 10), determine(3, 1, 11, 70, 1)]
        self.assertEqual(asked(line, [name(1, 3)]), [[70, 10]])

    def test_a_determination_counts_when_its_person_has_moved(self):
        line = done(START + [determine(3, 1, 11, 70, 1), move(3, 11, 2), determine(3, 21, 11, 71, 0)])
        self.assertEqual(asked(line, [name(1, 3), name(21, 3)]), [[70, 10], [71, 5]])
        self.assertEqual(last(line + [determine(3, 1, 11, 70, 1)]), -5)

    def test_only_who_works_where_it_lies(self):
        lent = [lend(0, 1, 1, 2, 9, 1, [1]), arrive(0, [1])]
        on = [lend(0, 2, 2, 3, 9, 1, [1]), arrive(0, [1]), person(16, 3, 1)]
        home = [back(0, 2, [1]), arrive(0, [1]), back(0, 1, [1]), arrive(0, [1])]
        for line, houses in ((START, [1]), (START + lent, [2]), (START + lent + on, [3]),
                             (START + lent + on + home, [1]), (START + lent + [cede(0, 1)], [2]),
                             (START + [give(0, 1, 2, [1]), arrive(0, [1])], [2])):
            done(line)
            for house_key in (1, 2, 3, 4):
                with self.subTest(line=line, house_key=house_key):
                    taken = last(line + [person(17, house_key, 1), determine(0, 1, 17, 70, 0)])
                    self.assertEqual(taken > 0, house_key in houses)
                    self.assertIn(taken, (-5, last(line + [move(0, 11, 1)])))

    def test_who_moved_there_and_who_moved_away(self):
        line = START + [move(0, 12, 1), determine(0, 1, 12, 70, 0), determine(0, 21, 12, 70, 0),
                        determine(0, 1, 11, 70, 0), move(0, 11, 3), determine(0, 1, 11, 70, 0)]
        self.assertEqual(numbers(line)[-6:], [3, 4, -5, 5, 6, -5])

    def test_a_type_is_determined_too(self):
        line = done(START + [typify(0, 1, 70), determine(0, 1, 11, 71, 0)])
        self.assertEqual(asked(line, [name(1, 0), types(70, 0), types(71, 0)]), [[71, 5], [1, 1], [0]])

    def test_no_such_sheet_or_person(self):
        for number in (0, -1, 9, 101, LEAST_NUMBER, GREATEST_NUMBER):
            self.assertEqual(last(START + [determine(0, number, 11, 70, 0)]), -2)
            self.assertEqual(last(START + [determine(0, 1, number, 70, 0)]), -3)

    def test_it_is_not_here(self):
        for away in (lose(0, [1]), give(0, 1, 2, [1]), lend(0, 1, 1, 2, 9, 0, [1]), split(0, 1, 50, 2),
                     destroy(0, 1)):
            for who in (11, 12):
                self.assertEqual(numbers(START + [away, determine(0, 1, who, 70, 0)])[-2:], [3, -4])

    def test_found_again(self):
        self.assertEqual(last(START + [lose(0, [1]), find(0, [1]), determine(0, 1, 11, 70, 0)]), 5)

    def test_names_at_the_edges(self):
        for called, is_key in KEYS_AT_THE_EDGES:
            line = START + [determine(0, 1, 11, called, 0)]
            self.assertEqual(last(line), 3 if is_key else -6)
            self.assertEqual(asked(line, [name(1, 0)]), [[called, 5] if is_key else [0, 0]])

    def test_how_surely_at_the_edges(self):
        for conf, answer in ((LEAST_NUMBER, -7), (-1, -7), (0, 3), (1, 3), (2, 3), (3, 3), (4, -7),
                             (GREATEST_NUMBER, -7)):
            self.assertEqual(last(START + [determine(0, 1, 11, 70, conf)]), answer)

    def test_refusals_in_their_order(self):
        line = done(START + [lose(0, [2])])
        wrong = [determine(-1, 99, 99, 0, 4), determine(0, 99, 99, 0, 4), determine(0, 2, 99, 0, 4),
                 determine(0, 2, 12, 0, 4), determine(0, 1, 12, 0, 4), determine(0, 1, 11, 0, 4),
                 determine(0, 1, 11, 70, 4), determine(0, 1, 11, 70, 3)]
        self.assertEqual(numbers(line + wrong)[-8:], [-1, -2, -3, -4, -5, -6, -7, 4])

    def test_a_refused_determination_changes_nothing(self):
        line = START + [determine(9, 1, 12, 70, 0), determine(9, 1, 11, 70, 4)]
        self.assertEqual(asked(line, [dets(1, 9), name(1, 9), log()]), [[0], [0, 0], [2, 0]])


class TypeTest(unittest.TestCase):
    def test_the_sheet_is_a_type_of_that_name(self):
        line = done(START + [typify(3, 1, 70)])
        self.assertEqual(last(line), 3)
        self.assertEqual(asked(line, [types(70, 3), types(71, 3), name(1, 3)]), [[1, 1], [0], [0, 0]])
        self.assertEqual(picture(line, 1), ("here", 1, [], 1))

    def test_several_types_of_one_name(self):
        line = done(START + [typify(3, 2, 70), typify(3, 21, 70), typify(3, 1, 71)])
        self.assertEqual(asked(line, [types(70, 3), types(71, 3)]), [[2, 2, 21], [1, 1]])

    def test_a_type_is_not_divided_given_ceded_destroyed_or_named_again(self):
        line = done(START + [typify(0, 1, 70), typify(0, 2, 70), lend(0, 1, 1, 2, 9, 0, [2]), arrive(0, [2])])
        wrong = [split(0, 1, 50, 2), give(0, 1, 2, [1]), give(0, 1, 2, [3, 1]), cede(0, 2), destroy(0, 1),
                 typify(0, 1, 70), typify(0, 1, 71), give(0, 1, 2, [3])]
        self.assertEqual(numbers(line + wrong)[-8:], [-4, -7, -7, -5, -5, -5, -5, 7])

    def test_a_type_is_lent_lent_on_sent_back_lost_and_found(self):
        line = done(START + [typify(0, 1, 70), lend(0, 1, 1, 2, 9, 1, [1]), arrive(0, [1]),
                             lend(0, 2, 2, 3, 9, 1, [1]), lose(0, [1]), find(0, [1]), back(0, 2, [1])])
        self.assertEqual(asked(line, [types(70, 0), where(1, 0)]), [[1, 1], [1, 2]])

    def test_no_such_sheet(self):
        for sheet in (0, -1, 9, 101, LEAST_NUMBER, GREATEST_NUMBER):
            self.assertEqual(last(START + [typify(0, sheet, 70)]), -2)

    def test_it_is_not_here(self):
        for away in (lose(0, [1]), give(0, 1, 2, [1]), lend(0, 1, 1, 2, 9, 0, [1]), split(0, 1, 50, 2),
                     destroy(0, 1)):
            self.assertEqual(numbers(START + [away, typify(0, 1, 70)])[-2:], [3, -3])

    def test_it_has_loans(self):
        line = done(START + [lend(0, 1, 1, 2, 9, 1, [1]), arrive(0, [1])])
        self.assertEqual(last(line + [typify(0, 1, 70)]), -4)
        self.assertEqual(last(line + [back(0, 1, [1]), arrive(0, [1]), typify(0, 1, 70)]), 7)
        self.assertEqual(last(line + [cede(0, 1), typify(0, 1, 70)]), 6)

    def test_names_at_the_edges(self):
        for called, is_key in KEYS_AT_THE_EDGES:
            line = START + [typify(0, 1, called)]
            self.assertEqual(last(line), 3 if is_key else -6)
            self.assertEqual(asked(line, [types(called, 0)]), [[1, 1] if is_key else [0]])

    def test_refusals_in_their_order(self):
        line = done(START + [typify(0, 1, 70), typify(0, 2, 70), typify(0, 3, 70), lend(0, 1, 1, 2, 9, 0, [1, 2]),
                             arrive(0, [2])])
        wrong = [typify(-1, 99, 0), typify(0, 99, 0), typify(0, 1, 0), typify(0, 2, 0), typify(0, 3, 0),
                 typify(0, 4, 0), typify(0, 4, 70)]
        self.assertEqual(numbers(line + wrong)[-7:], [-1, -2, -3, -4, -5, -6, 8])

    def test_a_refused_type_changes_nothing(self):
        line = done(START + [typify(0, 1, 70)]) + [typify(9, 1, 71), typify(9, 2, 0), typify(9, 99, 71)]
        self.assertEqual(numbers(line)[-3:], [-5, -6, -2])
        self.assertEqual(asked(line, [types(70, 9), types(71, 9), types(0, 9), log()]), [[1, 1], [0], [0], [3, 0]])
        self.assertEqual(last(line + [destroy(0, 2)]), 4)


class NameTest(unittest.TestCase):
    def test_without_determinations(self):
        self.assertEqual(name_after([]), [0, 0])

    def test_the_weight_is_the_rank_times_how_surely_and_one(self):
        for who, its_rank in ((11, 5), (14, 1), (15, 3)):
            for conf in (0, 1, 2, 3):
                self.assertEqual(name_after([(who, 70, conf)]), [70, its_rank * (conf + 1)])

    def test_the_greatest_and_the_least_rank(self):
        line = START + [person(18, 1, 9), person(19, 1, 1), determine(0, 1, 18, 70, 3), determine(0, 2, 19, 70, 0)]
        self.assertEqual(asked(done(line), [name(1, 0), name(2, 0)]), [[70, 36], [70, 1]])

    def test_several_persons_weights_are_summed(self):
        self.assertEqual(name_after([(11, 70, 0), (15, 70, 1), (14, 70, 3)]), [70, 15])
        self.assertEqual(name_after([(11, 70, 1), (15, 71, 2), (14, 71, 3)]), [71, 13])
        self.assertEqual(name_after([(15, 71, 2), (14, 71, 3), (11, 70, 1)]), [71, 13])

    def test_the_greatest_weight_whatever_the_order(self):
        self.assertEqual(name_after([(11, 70, 1), (15, 71, 0)]), [70, 10])
        self.assertEqual(name_after([(15, 71, 0), (11, 70, 1)]), [70, 10])
        self.assertEqual(name_after([(11, 71, 1), (15, 70, 0)]), [71, 10])

    def test_only_the_last_one_of_each_person_counts(self):
        self.assertEqual(name_after([(11, 70, 3), (11, 70, 0)]), [70, 5])
        self.assertEqual(name_after([(11, 70, 0), (11, 70, 1), (11, 70, 0)]), [70, 5])
        self.assertEqual(name_after([(11, 70, 3), (15, 71, 0), (11, 70, 0)]), [70, 5])
        self.assertEqual(name_after([(11, 70, 1), (13, 70, 1), (11, 71, 0), (13, 70, 0), (14, 70, 0)]), [70, 6])

    def test_a_name_whose_determinations_no_longer_count(self):
        self.assertEqual(name_after([(11, 70, 3), (11, 71, 0)]), [71, 5])
        self.assertEqual(name_after([(11, 70, 3), (14, 71, 0), (11, 72, 0)]), [72, 5])
        self.assertEqual(name_after([(11, 70, 3), (14, 71, 0), (11, 71, 0)]), [71, 6])

    def test_two_names_with_the_same_weight(self):
        self.assertEqual(name_after([(11, 70, 0), (13, 71, 0)]), [71, 5])
        self.assertEqual(name_after([(11, 71, 0), (13, 70, 0)]), [70, 5])
        self.assertEqual(name_after([(13, 71, 0), (11, 70, 0)]), [70, 5])
        self.assertEqual(name_after([(11, 70, 0), (13, 71, 0), (11, 70, 0)]), [70, 5])

    def test_the_last_that_says_one_of_them_not_the_first(self):
        self.assertEqual(name_after([(15, 70, 0), (11, 71, 0), (14, 70, 1)]), [70, 5])
        self.assertEqual(name_after([(11, 71, 0), (15, 70, 0), (14, 70, 1)]), [70, 5])
        self.assertEqual(name_after([(15, 70, 0), (14, 70, 1), (11, 71, 0)]), [71, 5])

    def test_a_lighter_name_said_last_of_all(self):
        self.assertEqual(name_after([(11, 70, 0), (13, 71, 0), (14, 72, 3)]), [71, 5])
        self.assertEqual(name_after([(13, 71, 0), (11, 70, 0), (14, 72, 3)]), [70, 5])

    def test_what_no_longer_counts_does_not_break_a_tie(self):
        self.assertEqual(name_after([(11, 70, 0), (13, 71, 0), (14, 70, 0), (14, 72, 0)]), [71, 5])
        self.assertEqual(name_after([(14, 71, 0), (13, 71, 0), (11, 70, 0), (14, 71, 0), (14, 72, 0)]), [70, 5])

    def test_three_names_with_the_same_weight(self):
        self.assertEqual(name_after([(11, 72, 0), (13, 70, 0), (15, 71, 0), (14, 71, 1)]), [71, 5])
        self.assertEqual(name_after([(15, 71, 0), (14, 71, 1), (11, 72, 0), (13, 70, 0)]), [70, 5])

    def test_each_sheet_has_its_own(self):
        line = done(MORE + [determine(0, 1, 11, 70, 3), determine(0, 2, 11, 71, 0), determine(0, 2, 13, 72, 1)])
        self.assertEqual(asked(line, [name(1, 0), name(2, 0), name(3, 0)]), [[70, 20], [72, 10], [0, 0]])

    def test_a_person_who_had_another_rank_before(self):
        line = done(MORE + [determine(0, 1, 11, 70, 0), determine(0, 1, 14, 71, 3), rank(0, 14, 2),
                            determine(0, 1, 14, 71, 2)])
        self.assertEqual(asked(line[:-2], [name(1, 0)]), [[70, 5]])
        self.assertEqual(asked(line, [name(1, 0)]), [[71, 6]])

    def test_it_keeps_its_name_wherever_it_is(self):
        named = START + [determine(0, 1, 11, 70, 1)]
        for more in (lose(0, [1]), give(0, 1, 2, [1]), lend(0, 1, 1, 2, 9, 0, [1]), split(0, 1, 50, 2),
                     destroy(0, 1), typify(0, 1, 71)):
            self.assertEqual(asked(done(named + [more]), [name(1, 0)]), [[70, 10]])

    def test_owner_and_borrower_both_say_something(self):
        line = done(START + [determine(0, 1, 11, 70, 0), lend(0, 1, 1, 2, 9, 0, [1]), arrive(0, [1]),
                             determine(1, 1, 12, 71, 1)])
        self.assertEqual(asked(line, [name(1, 0), name(1, 1)]), [[70, 5], [71, 6]])

    def test_parts_of_a_part(self):
        line = done(MORE + [determine(0, 1, 11, 70, 0), split(0, 1, 50, 2), determine(0, 50, 13, 71, 0),
                            split(0, 50, 60, 2), determine(0, 60, 11, 72, 2)])
        self.assertEqual(asked(line, [name(sheet, 0) for sheet in (1, 50, 51, 60, 61)]),
                         [[70, 5], [71, 5], [70, 5], [72, 15], [71, 5]])


class DetsTest(unittest.TestCase):
    def test_none(self):
        self.assertEqual(asked(START, [dets(1, 0)]), [[0]])

    def test_weight_0_for_those_that_do_not_count(self):
        line = done(MORE + [determine(0, 1, 11, 70, 3), determine(1, 1, 13, 71, 0), determine(2, 1, 11, 72, 1),
                            determine(2, 1, 15, 72, 0), determine(3, 1, 11, 70, 2)])
        self.assertEqual(asked(line, [dets(1, 3)]), [[5, 0, 11, 70, 3, 0, 1, 13, 71, 0, 5, 2, 11, 72, 1, 0,
                                                      2, 15, 72, 0, 3, 3, 11, 70, 2, 15]])

    def test_what_counted_at_each_day_s_end(self):
        line = done(MORE + [determine(1, 1, 11, 70, 3), determine(2, 1, 11, 71, 0), determine(2, 1, 11, 72, 1)])
        self.assertEqual(asked(line, [dets(1, day) for day in (0, 1, 2, 3)]),
                         [[0], [1, 1, 11, 70, 3, 20], [3, 1, 11, 70, 3, 0, 2, 11, 71, 0, 0, 2, 11, 72, 1, 10],
                          [3, 1, 11, 70, 3, 0, 2, 11, 71, 0, 0, 2, 11, 72, 1, 10]])

    def test_what_was_said_of_another_sheet_is_no_later_word(self):
        line = done(START + [determine(0, 1, 11, 70, 0), determine(0, 2, 11, 71, 0)])
        self.assertEqual(asked(line, [dets(1, 0)]), [[1, 0, 11, 70, 0, 5]])

    def test_what_was_handed_on_no_longer_counts_in_the_part_alone(self):
        line = done(MORE + [determine(0, 1, 11, 70, 0), determine(0, 1, 13, 70, 0), split(1, 1, 50, 2),
                            determine(2, 51, 13, 71, 1)])
        both = [2, 0, 11, 70, 0, 5, 0, 13, 70, 0, 5]
        self.assertEqual(asked(line, [dets(1, 2), dets(50, 2), dets(51, 1)]), [both] * 3)
        self.assertEqual(asked(line, [dets(51, 2), name(51, 2)]),
                         [[3, 0, 11, 70, 0, 5, 0, 13, 70, 0, 0, 2, 13, 71, 1, 10], [71, 10]])


class TypesTest(unittest.TestCase):
    def test_keys_ascending_whatever_the_order_they_were_made_in(self):
        line = done(START + [gather(0, 9, 11, 1, 15), typify(0, 24, 70), typify(0, 15, 70), typify(0, 3, 70),
                             typify(0, 21, 70)])
        self.assertEqual(asked(line, [types(70, 0)]), [[4, 3, 15, 21, 24]])

    def test_the_name_0_and_numbers_that_are_no_names(self):
        line = done(START + [typify(0, 1, 70)])
        for called in (0, -1, 71, GREATEST_KEY + 1, LEAST_NUMBER, GREATEST_NUMBER):
            self.assertEqual(asked(line, [types(called, 0)]), [[0]])
            self.assertEqual(asked([log()], [types(called, 0)]), [[0]])

    def test_a_determination_makes_no_type(self):
        self.assertEqual(asked(done(START + [determine(0, 1, 11, 70, 3)]), [types(70, 0)]), [[0]])

    def test_at_each_day_s_end(self):
        line = done(START + [typify(3, 2, 70), typify(5, 1, 70)])
        self.assertEqual(asked(line, [types(70, day) for day in (0, 2, 3, 4, 5, 6, GREATEST_DAY)]),
                         [[0], [0], [1, 2], [1, 2], [2, 1, 2], [2, 1, 2], [2, 1, 2]])

    def test_days_that_are_none(self):
        for day in (LEAST_NUMBER, -1, GREATEST_DAY + 1, GREATEST_NUMBER):
            self.assertEqual(asked(START, [types(70, day), types(0, day)]), [[-1], [-1]])

    def test_lost_and_lent_types(self):
        line = done(START + [typify(0, 1, 70), typify(0, 2, 70), lose(0, [1]), lend(0, 1, 1, 2, 9, 0, [2])])
        self.assertEqual(asked(line, [types(70, 0)]), [[2, 1, 2]])


if __name__ == "__main__":
    unittest.main()
