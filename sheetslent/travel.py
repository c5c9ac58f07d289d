"""Entries about where sheets are and whose they are: arrive, give, lose, find."""

from sheetslent.things import HERE, LOST, ON_THE_WAY, list_refusal, sheets_with


def status_refusal(ledger, keys, statuses):
    """Answer the refusals of arrive, lose and find, which differ only in the statuses that they take."""
    refusal = list_refusal(ledger, keys, -2)
    if refusal != 0:
        return refusal
    if not all([sheet.status in statuses for sheet in sheets_with(ledger, keys)]):
        return -4
    return 0


def put_status(ledger, keys, status):
    for sheet in sheets_with(ledger, keys):
        sheet.status = status


def arrive_refusal(ledger, keys):
    return status_refusal(ledger, keys, (ON_THE_WAY,))


def do_arrive(ledger, keys):
    put_status(ledger, keys, HERE)


def lose_refusal(ledger, keys):
    return status_refusal(ledger, keys, (HERE, ON_THE_WAY))


def do_lose(ledger, keys):
    put_status(ledger, keys, LOST)


def find_refusal(ledger, keys):
    return status_refusal(ledger, keys, (LOST,))


def do_find(ledger, keys):
    put_status(ledger, keys, HERE)


def give_refusal(ledger, old, new, keys):
    if old not in ledger.houses:
        return -2
    if new not in ledger.houses or new == old:
        return -3
    refusal = list_refusal(ledger, keys, -4)
    if refusal != 0:
        return refusal
    sheets = sheets_with(ledger, keys)
    if any([sheet.status != HERE or len(sheet.loans) > 0 or sheet.owner != old for sheet in sheets]):
        return -6
    if any([sheet.typified != 0 for sheet in sheets]):
        return -7
    return 0


def do_give(ledger, new, keys):
    for sheet in sheets_with(ledger, keys):
        sheet.owner = new
        sheet.status = ON_THE_WAY
