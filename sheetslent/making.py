"""Entries that make sheets or end them: gather, split, destroy."""

from sheetslent.things import DESTROYED, DIVIDED, HERE, Sheet, unlent_sheet_refusal
from sheetslent.words import MOST_SHEETS, is_key


def new_keys(first, n):
    return list(range(first, first + n))


def new_sheets_refusal(ledger, first, n):
    keys = new_keys(first, n)
    if not all([is_key(key) for key in keys]):
        return -6
    if any([key in ledger.sheets for key in keys]):
        return -7
    if len(ledger.sheets) + n > MOST_SHEETS:
        return -8
    return 0


def gather_refusal(ledger, key, person, n, first):
    if not is_key(key):
        return -2
    if key in ledger.gatherings:
        return -3
    if person not in ledger.persons:
        return -4
    if n < 1 or n > 8:
        return -5
    return new_sheets_refusal(ledger, first, n)


def do_gather(ledger, gathering, person, n, first):
    ledger.gatherings[gathering] = True
    owner = ledger.persons[person].house
    for key in new_keys(first, n):
        ledger.sheets[key] = Sheet(gathering, owner)


def split_refusal(ledger, key, first, n):
    if key not in ledger.sheets:
        return -2
    sheet = ledger.sheets[key]
    if sheet.status != HERE:
        return -3
    if sheet.typified != 0:
        return -4
    if n < 2 or n > 4:
        return -5
    return new_sheets_refusal(ledger, first, n)


def part_of(sheet):
    part = Sheet(sheet.gathering, sheet.owner)
    part.loans = list(sheet.loans)
    part.determinations = list(sheet.determinations)
    return part


def do_split(ledger, key, first, n):
    sheet = ledger.sheets[key]
    for part_key in new_keys(first, n):
        ledger.sheets[part_key] = part_of(sheet)
    sheet.status = DIVIDED
    sheet.loans = []


def destroy_refusal(ledger, key):
    return unlent_sheet_refusal(ledger, key)


def do_destroy(ledger, key):
    ledger.sheets[key].status = DESTROYED
