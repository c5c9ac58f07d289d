"""Houses, and the persons who work in them: house, person, move, rank."""

from sheetslent.things import Person
from sheetslent.words import MOST_HOUSES, MOST_PERSONS, is_key, is_rank


def add_house(ledger, key):
    if not is_key(key):
        return -1
    if key in ledger.houses:
        return -2
    if len(ledger.houses) >= MOST_HOUSES:
        return -3
    ledger.houses[key] = True
    return 0


def add_person(ledger, key, house, rank):
    if not is_key(key):
        return -1
    if house not in ledger.houses:
        return -2
    if not is_rank(rank):
        return -3
    if key in ledger.persons:
        return -4
    if len(ledger.persons) >= MOST_PERSONS:
        return -5
    ledger.persons[key] = Person(house, rank)
    return 0


def move_refusal(ledger, person, house):
    if person not in ledger.persons:
        return -2
    if house not in ledger.houses:
        return -3
    return 0


def do_move(ledger, person, house):
    ledger.persons[person].house = house


def rank_refusal(ledger, person, rank):
    if person not in ledger.persons:
        return -2
    if not is_rank(rank):
        return -3
    return 0


def do_rank(ledger, person, rank):
    ledger.persons[person].rank = rank
