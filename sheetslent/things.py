"""What there is: persons, loans, determinations, sheets, the log's entries, and the ledger that holds them all."""

from sheetslent.words import is_right_list

HERE = 0
ON_THE_WAY = 1
LOST = 2
DESTROYED = 3
DIVIDED = 4


class Person:
    def __init__(self, house, rank):
        self.house = house
        self.rank = rank
        # Where the person began: the past is told from there on, and the log doesn't hold it.
        self.first_house = house
        self.first_rank = rank


class Loan:
    def __init__(self, lender, borrower, due, onward):
        self.lender = lender
        self.borrower = borrower
        self.due = due
        self.onward = onward


class Determination:
    def __init__(self, day, person, rank, name, conf):
        self.day = day
        self.person = person
        # The rank of that moment: a later one doesn't change what was said before.
        self.rank = rank
        self.name = name
        self.conf = conf


class Sheet:
    def __init__(self, gathering, owner):
        self.gathering = gathering
        self.owner = owner
        # Keys of loans, not the loans: one loan is in the rows of several sheets and is extended for all of them.
        self.loans = []
        self.status = HERE
        self.determinations = []
        # The name that the sheet stands for, 0 if it stands for none.
        self.typified = 0


class Entry:
    def __init__(self, day, place, numbers, sheets):
        self.day = day
        self.place = place
        self.numbers = numbers
        self.sheets = sheets


class Ledger:
    def __init__(self):
        self.houses = {}
        self.persons = {}
        self.gatherings = {}
        self.sheets = {}
        # A loan stays here when no sheet has it any more: its key is never free again.
        self.loans = {}
        self.log = []

    def last_day(self):
        if len(self.log) == 0:
            return 0
        return self.log[-1].day


def holder_of(ledger, sheet):
    if len(sheet.loans) == 0:
        return sheet.owner
    return last_loan_of(ledger, sheet).borrower


def last_loan_of(ledger, sheet):
    return ledger.loans[sheet.loans[-1]]


def is_gone(sheet):
    return sheet.status in (DESTROYED, DIVIDED)


def sheets_with(ledger, keys):
    return [ledger.sheets[key] for key in keys]


def list_refusal(ledger, keys, wrong_list):
    """Answer wrong_list if the list isn't right, the number below it if some number is no sheet's, else 0."""
    if not is_right_list(keys):
        return wrong_list
    if not all([key in ledger.sheets for key in keys]):
        return wrong_list - 1
    return 0


def unlent_sheet_refusal(ledger, key):
    """Answer the refusals that destroy and typify begin with: a sheet that's away, lent, or stands for a name."""
    if key not in ledger.sheets:
        return -2
    sheet = ledger.sheets[key]
    if sheet.status != HERE:
        return -3
    if len(sheet.loans) > 0:
        return -4
    if sheet.typified != 0:
        return -5
    return 0
