"""Points 1 to 4: house, person, move, rank."""

import unittest

from tests.helper import (GREATEST_DAY, GREATEST_KEY, GREATEST_NUMBER, LEAST_NUMBER, START, done, gather, give,
                          holder_of, house, last, lend, move, numbers, person, rank)

TWELVE_HOUSES = [house(key) for key in range(1, 13)]
TWENTY_PERSONS = [house(1)] + [person(key, 1, 5) for key in range(1, 21)]


class HouseTest(unittest.TestCase):
    def test_a_house_is_there(self):
        self.assertEqual(numbers([house(7), person(1, 7, 1), person(2, 8, 1)]), [0, 0, -2])

    def test_keys_at_the_edges(self):
        edges = [LEAST_NUMBER, -1, 0, 1, GREATEST_KEY, GREATEST_KEY + 1, GREATEST_NUMBER]
        self.assertEqual(numbers([house(key) for key in edges]), [-1, -1, -1, 0, 0, -1, -1])

    def test_a_key_that_is_there(self):
        self.assertEqual(numbers([house(7), house(7), house(8)]), [0, -2, 0])

    def test_twelve_houses_and_one_more(self):
        self.assertEqual(numbers(TWELVE_HOUSES + [house(13)]), [0] * 12 + [-3])

    def test_refused_houses_do_not_count(self):
        self.assertEqual(last([house(0), house(1), house(1)] + TWELVE_HOUSES[1:]), 0)

    def test_a_refused_house_is_not_there(self):
        self.assertEqual(numbers(TWELVE_HOUSES + [house(13), person(1, 13, 1)])[-2:], [-3, -2])
        self.assertEqual(numbers([house(0), person(1, 0, 1)]), [-1, -2])

    def test_the_order_of_refusals(self):
        self.assertEqual(numbers(TWELVE_HOUSES + [house(0), house(1), house(13)])[-3:], [-1, -2, -3])


class PersonTest(unittest.TestCase):
    def test_a_person_works_in_the_house(self):
        line = [house(1), house(2), person(5, 2, 1), gather(0, 1, 5, 1, 50)]
        self.assertEqual(numbers(line), [0, 0, 0, 1])
        self.assertEqual(holder_of(line, 50), 2)

    def test_persons_and_houses_have_keys_of_their_own(self):
        self.assertEqual(numbers([house(1), person(1, 1, 1)]), [0, 0])

    def test_keys_at_the_edges(self):
        edges = [LEAST_NUMBER, -1, 0, 1, GREATEST_KEY, GREATEST_KEY + 1, GREATEST_NUMBER]
        self.assertEqual(numbers([house(1)] + [person(key, 1, 1) for key in edges])[1:],
                         [-1, -1, -1, 0, 0, -1, -1])

    def test_ranks_at_the_edges(self):
        ranks = [LEAST_NUMBER, -1, 0, 1, 9, 10, GREATEST_NUMBER]
        line = [house(1)] + [person(40 + at, 1, told) for at, told in enumerate(ranks)]
        self.assertEqual(numbers(line)[1:], [-3, -3, -3, 0, 0, -3, -3])

    def test_no_such_house(self):
        self.assertEqual(numbers([house(1), person(1, 2, 1), person(1, 0, 1), person(1, 1, 1)])[1:], [-2, -2, 0])

    def test_a_key_that_is_there(self):
        self.assertEqual(numbers([house(1), person(5, 1, 1), person(5, 1, 2), person(6, 1, 1)])[1:], [0, -4, 0])

    def test_a_refused_person_changes_nothing(self):
        line = [house(1), house(2), person(5, 1, 1), person(5, 2, 1), gather(0, 1, 5, 1, 50)]
        self.assertEqual(holder_of(line, 50), 1)
        self.assertEqual(numbers([house(1), person(5, 1, 0), move(0, 5, 1)])[1:], [-3, -2])

    def test_twenty_persons_and_one_more(self):
        self.assertEqual(numbers(TWENTY_PERSONS + [person(21, 1, 5), move(0, 21, 1)])[1:], [0] * 20 + [-5, -2])

    def test_the_order_of_refusals(self):
        wrong = [person(0, 2, 0), person(1, 2, 0), person(1, 1, 0), person(1, 1, 1), person(21, 1, 1)]
        self.assertEqual(numbers(TWENTY_PERSONS + wrong)[-5:], [-1, -2, -3, -4, -5])


class MoveTest(unittest.TestCase):
    def test_sheets_gathered_later_are_the_new_house_s(self):
        line = done(START + [gather(1, 1, 11, 1, 50), move(1, 11, 3), gather(1, 2, 11, 1, 51)])
        self.assertEqual(holder_of(line, 50), 1)
        self.assertEqual(holder_of(line, 51), 3)

    def test_others_stay_where_they_work(self):
        line = done(START + [move(1, 11, 3), gather(1, 1, 12, 1, 50)])
        self.assertEqual(holder_of(line, 50), 2)

    def test_to_the_same_house_and_back_again(self):
        line = done(START + [move(1, 11, 1), move(1, 11, 2), move(1, 11, 1), gather(1, 1, 11, 1, 50)])
        self.assertEqual(holder_of(line, 50), 1)

    def test_refusals_in_their_order(self):
        wrong = [move(-1, 10, 9), move(0, 10, 9), move(0, 11, 9), move(0, 11, 3)]
        self.assertEqual(numbers(START + wrong)[-4:], [-1, -2, -3, 3])

    def test_a_refused_move_changes_nothing(self):
        line = START + [move(3, 11, 9), move(GREATEST_DAY + 1, 11, 3), gather(0, 1, 11, 1, 50)]
        self.assertEqual(numbers(line)[-3:], [-3, -1, 3])
        self.assertEqual(holder_of(line, 50), 1)


class RankTest(unittest.TestCase):
    def test_ranks_at_the_edges(self):
        ranks = [LEAST_NUMBER, -1, 0, 1, 9, 10, GREATEST_NUMBER]
        self.assertEqual(numbers(START + [rank(0, 11, told) for told in ranks])[len(START):],
                         [-3, -3, -3, 3, 4, -3, -3])

    def test_refusals_in_their_order(self):
        wrong = [rank(-1, 10, 0), rank(0, 10, 0), rank(0, 11, 0), rank(0, 11, 9)]
        self.assertEqual(numbers(START + wrong)[-4:], [-1, -2, -3, 3])

    def test_a_rank_leaves_the_house_as_it_was(self):
        line = done(START + [rank(0, 11, 2), gather(0, 1, 11, 1, 50)])
        self.assertEqual(holder_of(line, 50), 1)
        self.assertEqual(last(line + [give(0, 1, 2, [50])]), 5)
        self.assertEqual(last(line + [lend(0, 1, 1, 2, 0, 0, [50])]), 5)


if __name__ == "__main__":
    unittest.main()
