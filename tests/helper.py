"""The calls as the interface wants them, and ways to see the object through later calls."""

from sheetslent.houses import answers

LEAST_NUMBER = -2147483648
GREATEST_NUMBER = 2147483647
GREATEST_KEY = 1000000000
GREATEST_DAY = 1000000
PROBE_LOAN = 987654321


def house(key):
    return [0, key]


def person(key, house_key, rank_told):
    return [1, key, house_key, rank_told]


def move(day, who, house_key):
    return [2, day, who, house_key]


def rank(day, who, rank_told):
    return [3, day, who, rank_told]


def gather(day, key, who, n, first):
    return [4, day, key, who, n, first]


def split(day, sheet, first, n):
    return [5, day, sheet, first, n]


def lend(day, loan, lender, borrower, due, onward, sheets):
    return [6, day, loan, lender, borrower, due, onward, len(sheets)] + sheets


def arrive(day, sheets):
    return [7, day, len(sheets)] + sheets


def back(day, loan, sheets):
    return [8, day, loan, len(sheets)] + sheets


def give(day, old, new, sheets):
    return [9, day, old, new, len(sheets)] + sheets


def cede(day, sheet):
    return [10, day, sheet]


def extend(day, loan, due):
    return [11, day, loan, due]


def lose(day, sheets):
    return [12, day, len(sheets)] + sheets


def find(day, sheets):
    return [13, day, len(sheets)] + sheets


def destroy(day, sheet):
    return [14, day, sheet]


def determine(day, sheet, who, called, conf):
    return [15, day, sheet, who, called, conf]


def typify(day, sheet, called):
    return [16, day, sheet, called]


def where(sheet, day):
    return [17, sheet, day]


def custody(sheet, day):
    return [18, sheet, day]


def name(sheet, day):
    return [19, sheet, day]


def dets(sheet, day):
    return [20, sheet, day]


def inside(house_key, day):
    return [21, house_key, day]


def books(house_key, day):
    return [22, house_key, day]


def overdue(day):
    return [23, day]


def gathering(key, day):
    return [24, key, day]


def types(called, day):
    return [25, called, day]


def history(sheet):
    return [26, sheet]


def log():
    return [27]


# Four houses; 11 and 12 work in 1 and 2; house 1 owns the sheets 1 to 8, house 2 the sheets 21 to 24.
START = [house(1), house(2), house(3), house(4), person(11, 1, 5), person(12, 2, 3),
         gather(0, 101, 11, 8, 1), gather(0, 102, 12, 4, 21)]


def told(calls):
    """The answers of a line, one list for each call."""
    assert 1 <= len(calls) <= 400, "a line has 1 to 400 calls"
    flat = [number for call in calls for number in call]
    given = answers(flat)
    each = []
    at = 0
    while at < len(given):
        each.append(given[at + 1:at + 1 + given[at]])
        at += 1 + given[at]
    assert at == len(given) and len(each) == len(calls), "the answers' form is off"
    return each


def numbers(calls):
    """The answers of a line whose calls answer one number each."""
    each = told(calls)
    assert all(len(answer) == 1 for answer in each), "an answer isn't one number"
    return [answer[0] for answer in each]


def last(calls):
    return numbers(calls)[-1]


def asked(calls, questions):
    """The answers of the questions behind the calls, one list for each."""
    return told(calls + questions)[len(calls):]


def done(calls):
    """The same calls, if none of them is refused: a line that a test builds on must not be refused unseen."""
    refused = [pair for pair in zip(calls, told(calls)) if pair[1][0] < 0]
    assert refused == [], "refused: %r" % refused
    return calls


def status_of(calls, sheet):
    if last(calls + [arrive(GREATEST_DAY, [sheet])]) > 0:
        return "on the way"
    if last(calls + [find(GREATEST_DAY, [sheet])]) > 0:
        return "lost"
    if last(calls + [lose(GREATEST_DAY, [sheet])]) > 0:
        return "here"
    return "gone"


def made_here(calls, sheet):
    """The calls with one more that brings the sheet here, where that can be."""
    more = {"on the way": [arrive(GREATEST_DAY, [sheet])], "lost": [find(GREATEST_DAY, [sheet])]}
    return calls + more.get(status_of(calls, sheet), [])


def holder_of(calls, sheet):
    calls = made_here(calls, sheet)
    holders = []
    for lender in range(1, 13):
        borrower = 2 if lender == 1 else 1
        probe = lend(GREATEST_DAY, PROBE_LOAN, lender, borrower, GREATEST_DAY, 0, [sheet])
        if last(calls + [probe]) not in (-4, -10):
            holders.append(lender)
    assert len(holders) <= 1, "a sheet has one holder"
    return holders[0] if holders else 0


def picture(calls, sheet, loans=(1, 2, 3, 4, 5)):
    """The sheet's status, owner, row of loans (the first one first) and holder, as later calls show them."""
    status = status_of(calls, sheet)
    holder = holder_of(calls, sheet)
    row = []
    here = made_here(calls, sheet)
    taken = True
    while taken:
        taken = False
        for loan in loans:
            sent_back = here + [back(GREATEST_DAY, loan, [sheet]), arrive(GREATEST_DAY, [sheet])]
            if min(numbers(sent_back)[-2:]) > 0:
                row.insert(0, loan)
                here = sent_back
                taken = True
                break
    return status, holder_of(here, sheet), row, holder
