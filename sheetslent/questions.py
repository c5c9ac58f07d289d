"""The questions: what each one is refused for, and what it answers from the log."""

from sheetslent.naming import counting_weights, name_and_weight
from sheetslent.past import ledger_at, names_sheet
from sheetslent.places import BOOKS, CUSTODY, GATHERING, HISTORY, INSIDE, LOG, NAME, OVERDUE, TYPIFIED, WHERE
from sheetslent.things import HERE, LOST, ON_THE_WAY, holder_of, is_gone
from sheetslent.words import is_day


def ask(ledger, place, numbers):
    if place == LOG:
        return [len(ledger.log), ledger.last_day()]
    if place == HISTORY:
        return history(ledger, numbers[0])
    # The day is the last number of each of the other questions.
    day = numbers[-1]
    if not is_day(day):
        return [-1]
    past = ledger_at(ledger, day)
    if place == OVERDUE:
        return overdue(past, day)
    if place == GATHERING:
        return gathering(past, numbers[0])
    if place == TYPIFIED:
        return told_list(typified_keys(past, numbers[0]))
    if place in (INSIDE, BOOKS):
        return ask_of_house(past, place, numbers[0])
    return ask_of_sheet(past, place, numbers[0])


def ask_of_sheet(past, place, key):
    if key not in past.sheets:
        return [-2]
    sheet = past.sheets[key]
    if place == WHERE:
        return where(past, sheet)
    if place == CUSTODY:
        return custody(past, sheet)
    if place == NAME:
        return name_and_weight(sheet.determinations)
    return dets(sheet)


def ask_of_house(past, place, house):
    if house not in past.houses:
        return [-2]
    if place == INSIDE:
        return told_list(keys_inside(past, house))
    return told_list(books(past, house))


def told_list(numbers):
    return [len(numbers)] + numbers


def told_rows(rows):
    told = [len(rows)]
    for row in rows:
        told.extend(row)
    return told


def where(past, sheet):
    return [sheet.status, 0 if is_gone(sheet) else holder_of(past, sheet)]


def custody(past, sheet):
    return [sheet.owner] + told_rows([[key, past.loans[key].borrower, past.loans[key].due] for key in sheet.loans])


def dets(sheet):
    weights = counting_weights(sheet.determinations)
    return told_rows([[said.day, said.person, said.name, said.conf, weight]
                      for said, weight in zip(sheet.determinations, weights)])


def is_held_here(past, sheet, house):
    return sheet.status == HERE and holder_of(past, sheet) == house


def keys_inside(past, house):
    return [key for key in sorted(past.sheets) if is_held_here(past, past.sheets[key], house)]


def books(past, house):
    there = [sheet for sheet in past.sheets.values() if not is_gone(sheet)]
    owned = [sheet for sheet in there if sheet.owner == house]
    unlent = [sheet.status for sheet in owned if len(sheet.loans) == 0]
    lent = [sheet.status for sheet in owned if len(sheet.loans) > 0]
    lost = [sheet for sheet in owned if sheet.status == LOST]
    borrowed = [sheet for sheet in there if len(sheet.loans) > 0 and is_held_here(past, sheet, house)]
    return [unlent.count(HERE), len(lent) - lent.count(LOST), unlent.count(ON_THE_WAY), len(lost), len(borrowed)]


def overdue(past, day):
    rows = []
    for key in sorted(past.loans):
        having = [sheet for sheet in past.sheets.values() if key in sheet.loans]
        if past.loans[key].due < day and len(having) > 0:
            rows.append([key, len(having)])
    return told_rows(rows)


def gathering(past, key):
    if key not in past.gatherings:
        return [-2]
    rows = []
    for sheet_key in sorted(past.sheets):
        sheet = past.sheets[sheet_key]
        if sheet.gathering == key and not is_gone(sheet):
            rows.append([sheet_key, name_and_weight(sheet.determinations)[0]])
    return told_rows(rows)


def typified_keys(past, name):
    # A sheet that stands for no name has 0 there, which must not be taken for the name that was asked.
    return [key for key in sorted(past.sheets) if name != 0 and past.sheets[key].typified == name]


def history(ledger, key):
    if key not in ledger.sheets:
        return [-1]
    return told_list([number for number, entry in enumerate(ledger.log, start=1) if names_sheet(entry, key)])
