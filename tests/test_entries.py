"""What is said of every entry: its day, its number, the full log, and what a refusal leaves as it was."""

import unittest

from tests.helper import (GREATEST_DAY, GREATEST_NUMBER, LEAST_NUMBER, START, arrive, asked, back, books, cede,
                          custody, destroy, determine, dets, done, extend, find, gather, gathering, give, history,
                          house, inside, last, lend, log, lose, move, numbers, overdue, person, rank, split, types,
                          typify, where)

# Sheet 1 is here, 2 on the way, 3 lost, 4 lent and here; five entries behind START's two.
READY = START + [lend(0, 1, 1, 2, 0, 1, [2]), lend(0, 2, 1, 2, 0, 1, [4]), arrive(0, [4]), lose(0, [3]),
                 rank(0, 12, 4)]


def each_entry(day):
    """One of each entry, none of which is refused behind READY, whatever the day."""
    return {"move": move(day, 11, 2), "rank": rank(day, 11, 1), "gather": gather(day, 9, 11, 1, 90),
            "split": split(day, 1, 90, 2), "lend": lend(day, 9, 1, 2, GREATEST_DAY, 0, [1]),
            "arrive": arrive(day, [2]), "back": back(day, 2, [4]), "give": give(day, 1, 2, [1]),
            "cede": cede(day, 4), "extend": extend(day, 1, 0), "lose": lose(day, [1]), "find": find(day, [3]),
            "destroy": destroy(day, 1), "determine": determine(day, 1, 11, 70, 0), "type": typify(day, 1, 70)}


def each_refused(day):
    """One of each entry, refused behind READY for a reason of its own, whatever the day."""
    return {"move": move(day, 13, 2), "rank": rank(day, 11, 0), "gather": gather(day, 101, 11, 1, 90),
            "split": split(day, 1, 90, 5), "lend": lend(day, 9, 1, 2, -1, 0, [1]), "arrive": arrive(day, [1]),
            "back": back(day, 1, [4]), "give": give(day, 2, 1, [1]), "cede": cede(day, 1),
            "extend": extend(day, 1, GREATEST_DAY + 1), "lose": lose(day, [3]), "find": find(day, [1]),
            "destroy": destroy(day, 4), "determine": determine(day, 1, 12, 70, 0), "type": typify(day, 4, 70)}


def everything(day):
    """Questions that together show all there is behind READY at a day's end."""
    questions = [log(), overdue(day), types(70, day), gathering(101, day), gathering(102, day), gathering(9, day)]
    for house_key in (1, 2, 3, 4):
        questions += [inside(house_key, day), books(house_key, day)]
    for sheet in (1, 2, 3, 4, 5, 21, 90, 91):
        questions += [where(sheet, day), custody(sheet, day), dets(sheet, day), history(sheet)]
    return questions


def with_full_log(calls):
    """The calls with as many moves behind them that the log has 300 entries."""
    calls = done(calls)
    return done(calls + [move(0, 12, 2)] * (300 - last(calls)))


class DayTest(unittest.TestCase):
    def test_days_at_the_edges(self):
        for day, answer in ((LEAST_NUMBER, -1), (-1, -1), (0, 8), (1, 8), (GREATEST_DAY, 8), (GREATEST_DAY + 1, -1),
                            (GREATEST_NUMBER, -1)):
            for name, entry in each_entry(day).items():
                with self.subTest(name=name, day=day):
                    self.assertEqual(last(done(READY) + [entry]), answer)

    def test_days_never_go_back(self):
        for name, entry in each_entry(6).items():
            with self.subTest(name=name):
                self.assertEqual(numbers(READY + [move(7, 12, 2), entry])[-2:], [8, -1])
                self.assertEqual(numbers(READY + [move(6, 12, 2), entry])[-2:], [8, 9])

    def test_each_entry_moves_the_last_day(self):
        for name, entry in each_entry(7).items():
            with self.subTest(name=name):
                self.assertEqual(numbers(READY + [entry, move(6, 12, 2), move(7, 12, 2)])[-3:], [8, -1, 9])

    def test_a_refused_entry_is_not_in_the_log_and_moves_no_day(self):
        self.assertEqual(set(each_refused(9)), set(each_entry(9)))
        for name, entry in each_refused(9).items():
            with self.subTest(name=name):
                answers = numbers(READY + [entry, move(0, 12, 2)])
                self.assertLess(answers[-2], -1)
                self.assertEqual(answers[-1], 8)

    def test_a_refused_entry_leaves_everything_as_it_was(self):
        before = asked(READY, everything(9))
        for name, entry in each_refused(9).items():
            with self.subTest(name=name):
                self.assertEqual(asked(READY + [entry], everything(9)), before)
                self.assertEqual(asked(READY + [entry], everything(0)), asked(READY, everything(0)))

    def test_each_refused_entry_is_as_good_as_none_for_the_one_that_follows(self):
        for refused in each_refused(9).values():
            for name, entry in each_entry(9).items():
                with self.subTest(refused=refused, name=name):
                    self.assertEqual(asked(READY + [refused, entry], everything(9)),
                                     asked(READY + [entry], everything(9)))

    def test_a_refusal_for_the_day_moves_no_day(self):
        line = START + [move(GREATEST_DAY + 1, 11, 2), move(-1, 11, 2), move(5, 11, 2), move(4, 11, 1), move(5, 11, 1)]
        self.assertEqual(numbers(line)[-5:], [-1, -1, 3, -1, 4])

    def test_houses_and_persons_are_no_entries(self):
        line = START + [move(5, 11, 2), person(13, 1, 1), house(5), move(5, 13, 5)]
        self.assertEqual(numbers(line)[-4:], [3, 0, 0, 4])
        self.assertEqual(asked(line, [log()]), [[4, 5]])


class FullLogTest(unittest.TestCase):
    def test_three_hundred_entries_and_one_more(self):
        line = with_full_log(READY)
        self.assertEqual(last(line), 300)
        for name, entry in each_entry(0).items():
            with self.subTest(name=name):
                self.assertEqual(last(line[:-1] + [entry]), 300)
                self.assertEqual(last(line + [entry]), -20)

    def test_the_day_and_own_refusals_are_told_first(self):
        line = with_full_log(READY)
        wrong = [move(-1, 11, 2), move(0, 13, 2), rank(0, 11, 0), gather(0, 9, 11, 9, 90), gather(0, 9, 11, 1, 1),
                 split(0, 1, 1, 2), lend(0, 9, 2, 3, 1, 0, [4]), arrive(0, [1]), back(0, 1, [4]), give(0, 2, 1, [1]),
                 cede(0, 1), extend(0, 1, -1), lose(0, [3]), find(0, [1]), destroy(-1, 1), destroy(0, 4),
                 determine(-1, 1, 11, 70, 0), determine(0, 1, 11, 70, 4), typify(-1, 1, 70), typify(0, 1, 0)]
        self.assertEqual(numbers(line + wrong)[-20:], [-1, -2, -3, -5, -7, -7, -12, -4, -4, -6, -4, -4, -4, -4,
                                                       -1, -4, -1, -7, -1, -6])

    def test_forty_loans_are_told_first(self):
        loans = []
        for loan in range(1, 41):
            loans += [lend(0, loan, 1, 2, 0, 0, [1]), arrive(0, [1]), back(0, loan, [1]), arrive(0, [1])]
        self.assertEqual(last(with_full_log(START + loans) + [lend(0, 41, 1, 2, 0, 0, [1])]), -13)
        self.assertEqual(last(with_full_log(START + loans[:-4]) + [lend(0, 41, 1, 2, 0, 0, [1])]), -20)

    def test_sixty_sheets_are_told_first(self):
        sheets = [gather(0, key, 11, 8, key * 10) for key in range(3, 9)]
        line = with_full_log(START + sheets)
        self.assertEqual(numbers(line + [gather(0, 9, 11, 1, 90), split(0, 1, 90, 2)])[-2:], [-8, -8])

    def test_what_the_full_log_refuses_changes_nothing(self):
        line = with_full_log(READY)
        tries = [split(5, 1, 90, 2), lend(5, 9, 1, 2, 9, 0, [1]), arrive(5, [2]), back(5, 2, [4]), cede(5, 4),
                 give(5, 1, 2, [1]), lose(5, [1]), find(5, [3]), gather(5, 9, 11, 1, 90), extend(5, 1, 8),
                 destroy(5, 1), determine(5, 1, 11, 70, 0), typify(5, 1, 70)]
        again = [split(0, 1, 90, 2), lend(0, 9, 1, 2, 9, 0, [1]), arrive(0, [2]), back(0, 2, [4]), cede(0, 4),
                 give(0, 1, 2, [1]), lose(0, [1]), find(0, [3]), gather(0, 9, 11, 1, 90), extend(0, 1, 0),
                 destroy(0, 1), determine(0, 1, 11, 70, 0), typify(0, 1, 70)]
        self.assertEqual(numbers(line + tries + again)[-26:], [-20] * 26)
        for day in (0, 5):
            self.assertEqual(asked(line + tries, everything(day)), asked(line, everything(day)))

    def test_houses_and_persons_are_still_taken(self):
        self.assertEqual(numbers(with_full_log(READY) + [house(5), person(13, 5, 1)])[-2:], [0, 0])


if __name__ == "__main__":
    unittest.main()
