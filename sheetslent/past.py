"""What the log tells of the past: the ledger at the end of a day, and the sheets that an entry names."""

from sheetslent.entries import carry_out
from sheetslent.making import new_keys
from sheetslent.places import CEDE, DESTROY, DETERMINE, GATHER, SPLIT, TYPIFY
from sheetslent.things import Ledger, Person


def persons_at_first(persons):
    first = {}
    for key, person in persons.items():
        first[key] = Person(person.first_house, person.first_rank)
    return first


def ledger_at(ledger, day):
    """Answer a ledger of its own in which the entries up to that day are done once more."""
    past = Ledger()
    # Houses and persons aren't entries: all that are there now count as there from the first day on.
    past.houses = dict(ledger.houses)
    past.persons = persons_at_first(ledger.persons)
    for entry in ledger.log:
        if entry.day > day:
            break
        carry_out(past, entry.place, entry.numbers, entry.sheets)
    return past


def names_sheet(entry, key):
    if entry.place == GATHER:
        return key in new_keys(entry.numbers[4], entry.numbers[3])
    if entry.place == SPLIT:
        return key == entry.numbers[1] or key in new_keys(entry.numbers[2], entry.numbers[3])
    if entry.place in (CEDE, DESTROY, DETERMINE, TYPIFY):
        return key == entry.numbers[1]
    return key in entry.sheets
