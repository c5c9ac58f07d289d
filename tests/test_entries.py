"""What is said of every entry: its day, its number, the full log, and what a refusal leaves as it was."""

import unittest

from sheetslent.entries import enter
from sheetslent.people import add_house, add_person
from sheetslent.things import DIVIDED, HERE, LOST, ON_THE_WAY, Ledger
from sheetslent.words import is_day
from tests.helper import (GREATEST_DAY, GREATEST_NUMBER, LEAST_NUMBER, START, arrive, back, cede, done, extend, find,
                          gather, give, last, lend, lose, move, numbers, person, rank, split)

# Sheet 1 is here, 2 on the way, 3 lost, 4 lent and here; five entries behind START's two.
READY = START + [lend(0, 1, 1, 2, 0, 1, [2]), lend(0, 2, 1, 2, 0, 1, [4]), arrive(0, [4]), lose(0, [3]),
                 rank(0, 12, 4)]


def each_entry(day):
    """One of each entry, none of which is refused behind READY, whatever the day."""
    return {"move": move(day, 11, 2), "rank": rank(day, 11, 1), "gather": gather(day, 9, 11, 1, 90),
            "split": split(day, 1, 90, 2), "lend": lend(day, 9, 1, 2, GREATEST_DAY, 0, [1]),
            "arrive": arrive(day, [2]), "back": back(day, 2, [4]), "give": give(day, 1, 2, [1]),
            "cede": cede(day, 4), "extend": extend(day, 1, 0), "lose": lose(day, [1]), "find": find(day, [3])}


def with_full_log(calls):
    """The calls with as many moves behind them that the log has 300 entries."""
    calls = done(calls)
    return done(calls + [move(0, 12, 2)] * (300 - last(calls)))


class DayTest(unittest.TestCase):
    def test_days_at_the_edges(self):
        for day, answer in ((LEAST_NUMBER, -1), (-1, -1), (0, 8), (1, 8), (GREATEST_DAY, 8), (GREATEST_DAY + 1, -1),
                            (GREATEST_NUMBER, -1)):
            for name, entry in each_entry(day).items():
                with self.subTest(name=name, day=day):
                    self.assertEqual(last(done(READY) + [entry]), answer)

    def test_days_never_go_back(self):
        for name, entry in each_entry(6).items():
            with self.subTest(name=name):
                self.assertEqual(numbers(READY + [move(7, 12, 2), entry])[-2:], [8, -1])
                self.assertEqual(numbers(READY + [move(6, 12, 2), entry])[-2:], [8, 9])

    def test_each_entry_moves_the_last_day(self):
        for name, entry in each_entry(7).items():
            with self.subTest(name=name):
                self.assertEqual(numbers(READY + [entry, move(6, 12, 2), move(7, 12, 2)])[-3:], [8, -1, 9])

    def test_a_refused_entry_is_not_in_the_log_and_moves_no_day(self):
        refused = {"move": move(9, 13, 2), "rank": rank(9, 11, 0), "gather": gather(9, 101, 11, 1, 90),
                   "split": split(9, 1, 90, 5), "lend": lend(9, 9, 1, 2, 8, 0, [1]), "arrive": arrive(9, [1]),
                   "back": back(9, 1, [4]), "give": give(9, 2, 1, [1]), "cede": cede(9, 1),
                   "extend": extend(9, 1, GREATEST_DAY + 1), "lose": lose(9, [3]), "find": find(9, [1])}
        self.assertEqual(set(refused), set(each_entry(9)))
        for name, entry in refused.items():
            with self.subTest(name=name):
                answers = numbers(READY + [entry, move(0, 12, 2)])
                self.assertLess(answers[-2], -1)
                self.assertEqual(answers[-1], 8)

    def test_a_refusal_for_the_day_moves_no_day(self):
        line = START + [move(GREATEST_DAY + 1, 11, 2), move(-1, 11, 2), move(5, 11, 2), move(4, 11, 1), move(5, 11, 1)]
        self.assertEqual(numbers(line)[-5:], [-1, -1, 3, -1, 4])

    def test_houses_and_persons_are_no_entries(self):
        line = START + [move(5, 11, 2), person(13, 1, 1), [0, 5], move(5, 13, 5)]
        self.assertEqual(numbers(line)[-4:], [3, 0, 0, 4])


class FullLogTest(unittest.TestCase):
    def test_three_hundred_entries_and_one_more(self):
        line = with_full_log(READY)
        self.assertEqual(last(line), 300)
        for name, entry in each_entry(0).items():
            with self.subTest(name=name):
                self.assertEqual(last(line[:-1] + [entry]), 300)
                self.assertEqual(last(line + [entry]), -20)

    def test_the_day_and_own_refusals_are_told_first(self):
        line = with_full_log(READY)
        wrong = [move(-1, 11, 2), move(0, 13, 2), rank(0, 11, 0), gather(0, 9, 11, 9, 90), gather(0, 9, 11, 1, 1),
                 split(0, 1, 1, 2), lend(0, 9, 2, 3, 1, 0, [4]), arrive(0, [1]), back(0, 1, [4]), give(0, 2, 1, [1]),
                 cede(0, 1), extend(0, 1, -1), lose(0, [3]), find(0, [1])]
        self.assertEqual(numbers(line + wrong)[-14:], [-1, -2, -3, -5, -7, -7, -12, -4, -4, -6, -4, -4, -4, -4])

    def test_forty_loans_are_told_first(self):
        loans = []
        for loan in range(1, 41):
            loans += [lend(0, loan, 1, 2, 0, 0, [1]), arrive(0, [1]), back(0, loan, [1]), arrive(0, [1])]
        self.assertEqual(last(with_full_log(START + loans) + [lend(0, 41, 1, 2, 0, 0, [1])]), -13)
        self.assertEqual(last(with_full_log(START + loans[:-4]) + [lend(0, 41, 1, 2, 0, 0, [1])]), -20)

    def test_sixty_sheets_are_told_first(self):
        sheets = [gather(0, key, 11, 8, key * 10) for key in range(3, 9)]
        line = with_full_log(START + sheets)
        self.assertEqual(numbers(line + [gather(0, 9, 11, 1, 90), split(0, 1, 90, 2)])[-2:], [-8, -8])

    def test_what_the_full_log_refuses_changes_nothing(self):
        line = with_full_log(READY)
        tries = [split(5, 1, 90, 2), lend(5, 9, 1, 2, 9, 0, [1]), arrive(5, [2]), back(5, 2, [4]), cede(5, 4),
                 give(5, 1, 2, [1]), lose(5, [1]), find(5, [3]), gather(5, 9, 11, 1, 90), extend(5, 1, 8)]
        again = [split(0, 1, 90, 2), lend(0, 9, 1, 2, 9, 0, [1]), arrive(0, [2]), back(0, 2, [4]), cede(0, 4),
                 give(0, 1, 2, [1]), lose(0, [1]), find(0, [3]), gather(0, 9, 11, 1, 90), extend(0, 1, 0)]
        self.assertEqual(numbers(line + tries + again)[-20:], [-20] * 20)

    def test_houses_and_persons_are_still_taken(self):
        self.assertEqual(numbers(with_full_log(READY) + [[0, 5], person(13, 5, 1)])[-2:], [0, 0])


def small_ledger():
    """House 1 and 2; sheets 1 to 3 of house 1; sheet 3 is lent to house 2 and is here."""
    ledger = Ledger()
    add_house(ledger, 1)
    add_house(ledger, 2)
    add_person(ledger, 11, 1, 5)
    enter(ledger, 4, [0, 100, 11, 3, 1], [])
    enter(ledger, 6, [0, 1, 1, 2, 9, 0], [3])
    enter(ledger, 7, [0], [3])
    return ledger


class InnerTest(unittest.TestCase):
    """What no call of this stage can bring about or show, seen in the ledger itself."""

    def test_a_sheet_that_stands_for_a_name_is_not_split(self):
        ledger = small_ledger()
        ledger.sheets[1].typified = 7
        self.assertEqual(enter(ledger, 5, [0, 1, 50, 5], []), -4)
        ledger.sheets[1].status = 1
        self.assertEqual(enter(ledger, 5, [0, 1, 50, 5], []), -3)

    def test_a_sheet_that_stands_for_a_name_is_not_given(self):
        ledger = small_ledger()
        ledger.sheets[1].typified = 7
        self.assertEqual(enter(ledger, 9, [0, 1, 2], [2, 1]), -7)
        self.assertEqual(enter(ledger, 9, [0, 1, 2], [1, 3]), -6)
        self.assertEqual(ledger.sheets[2].owner, 1)
        self.assertEqual(enter(ledger, 9, [0, 1, 2], [2]), 4)

    def test_a_sheet_that_stands_for_a_name_is_not_ceded(self):
        ledger = small_ledger()
        ledger.sheets[3].typified = 7
        ledger.sheets[1].typified = 7
        self.assertEqual(enter(ledger, 10, [0, 3], []), -5)
        self.assertEqual(enter(ledger, 10, [0, 1], []), -4)

    def test_the_parts_have_the_gathering_and_the_determinations(self):
        ledger = small_ledger()
        ledger.sheets[1].determinations.append((0, 11, 5, 70, 2))
        self.assertEqual(enter(ledger, 5, [0, 1, 50, 2], []), 4)
        ledger.sheets[50].determinations.append((0, 11, 5, 71, 2))
        self.assertEqual(ledger.sheets[51].determinations, [(0, 11, 5, 70, 2)])
        self.assertEqual(ledger.sheets[1].determinations, [(0, 11, 5, 70, 2)])
        self.assertEqual([ledger.sheets[key].gathering for key in (1, 50, 51)], [100, 100, 100])
        self.assertEqual([ledger.sheets[key].typified for key in (50, 51)], [0, 0])

    def test_new_sheets_have_the_gathering_and_no_determinations(self):
        ledger = small_ledger()
        self.assertEqual([ledger.sheets[key].gathering for key in (1, 2, 3)], [100, 100, 100])
        self.assertEqual([ledger.sheets[key].determinations for key in (1, 2, 3)], [[], [], []])
        self.assertEqual([ledger.sheets[key].typified for key in (1, 2, 3)], [0, 0, 0])

    def test_a_person_s_rank(self):
        ledger = small_ledger()
        self.assertEqual(ledger.persons[11].rank, 5)
        self.assertEqual(enter(ledger, 3, [0, 11, 10], []), -3)
        self.assertEqual(ledger.persons[11].rank, 5)
        self.assertEqual(enter(ledger, 3, [0, 11, 9], []), 4)
        self.assertEqual(ledger.persons[11].rank, 9)

    def test_the_log_holds_the_entries_with_their_days(self):
        ledger = small_ledger()
        self.assertEqual(enter(ledger, 12, [6], [1, 2]), 4)
        self.assertEqual(enter(ledger, 13, [8], [3]), -4)
        self.assertEqual(enter(ledger, 13, [7], [2]), 5)
        self.assertEqual([(entry.day, entry.place, entry.numbers, entry.sheets) for entry in ledger.log],
                         [(0, 4, [0, 100, 11, 3, 1], []), (0, 6, [0, 1, 1, 2, 9, 0], [3]), (0, 7, [0], [3]),
                          (6, 12, [6], [1, 2]), (7, 13, [7], [2])])
        self.assertEqual(ledger.last_day(), 7)

    def test_the_statuses_numbers(self):
        self.assertEqual((HERE, ON_THE_WAY, LOST, DIVIDED), (0, 1, 2, 4))

    def test_the_least_and_greatest_day(self):
        self.assertEqual([is_day(day) for day in (-1, 0, GREATEST_DAY, GREATEST_DAY + 1)], [False, True, True, False])

    def test_an_empty_log_s_last_day(self):
        self.assertEqual(Ledger().last_day(), 0)


if __name__ == "__main__":
    unittest.main()
