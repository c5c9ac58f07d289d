"""Entries about loans: lend, back, cede, extend."""

from sheetslent.things import HERE, ON_THE_WAY, holder_of, last_loan_of, list_refusal, sheets_with
from sheetslent.words import MOST_LOANS, is_day, is_key


def lend_refusal(ledger, day, key, loan, keys):
    refusal = loan_refusal(ledger, day, key, loan)
    if refusal == 0:
        refusal = list_refusal(ledger, keys, -8)
    if refusal == 0:
        refusal = lent_sheets_refusal(ledger, loan, sheets_with(ledger, keys))
    if refusal == 0 and len(ledger.loans) >= MOST_LOANS:
        refusal = -13
    return refusal


def loan_refusal(ledger, day, key, loan):
    if not is_key(key):
        return -2
    if key in ledger.loans:
        return -3
    if loan.lender not in ledger.houses:
        return -4
    if loan.borrower not in ledger.houses or loan.borrower == loan.lender:
        return -5
    if not is_day(loan.due) or loan.due < day:
        return -6
    if loan.onward != 0 and loan.onward != 1:
        return -7
    return 0


def lent_sheets_refusal(ledger, loan, sheets):
    if any([sheet.status != HERE or holder_of(ledger, sheet) != loan.lender for sheet in sheets]):
        return -10
    loans_before = [last_loan_of(ledger, sheet) for sheet in sheets if len(sheet.loans) > 0]
    if any([before.onward == 0 for before in loans_before]):
        return -11
    if any([before.due < loan.due for before in loans_before]):
        return -12
    return 0


def do_lend(ledger, key, loan, keys):
    ledger.loans[key] = loan
    for sheet in sheets_with(ledger, keys):
        sheet.loans.append(key)
        sheet.status = ON_THE_WAY


def back_refusal(ledger, loan, keys):
    refusal = list_refusal(ledger, keys, -2)
    if refusal != 0:
        return refusal
    for sheet in sheets_with(ledger, keys):
        if sheet.status != HERE or len(sheet.loans) == 0 or sheet.loans[-1] != loan:
            return -4
    return 0


def do_back(ledger, keys):
    for sheet in sheets_with(ledger, keys):
        sheet.loans.pop()
        sheet.status = ON_THE_WAY


def cede_refusal(ledger, key):
    if key not in ledger.sheets:
        return -2
    sheet = ledger.sheets[key]
    if sheet.status != HERE:
        return -3
    if len(sheet.loans) == 0:
        return -4
    if sheet.typified != 0:
        return -5
    return 0


def do_cede(ledger, key):
    sheet = ledger.sheets[key]
    first_loan = sheet.loans.pop(0)
    sheet.owner = ledger.loans[first_loan].borrower


def extend_refusal(ledger, loan, due):
    if loan not in ledger.loans:
        return -2
    rows = [sheet.loans for sheet in ledger.sheets.values() if loan in sheet.loans]
    if len(rows) == 0:
        return -3
    if not is_day(due) or due < ledger.loans[loan].due:
        return -4
    if any([is_due_before(ledger, row, loan, due) for row in rows]):
        return -5
    return 0


def is_due_before(ledger, row, loan, due):
    """Answer whether the loan right before this one in the row is due earlier than due."""
    position = row.index(loan)
    return position > 0 and ledger.loans[row[position - 1]].due < due


def do_extend(ledger, loan, due):
    ledger.loans[loan].due = due
