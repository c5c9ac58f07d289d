"""The program's interface: one list of calls in, one list of answers out."""

from sheetslent.entries import enter
from sheetslent.people import add_house, add_person
from sheetslent.places import HOUSE, NUMBER_COUNTS, PERSON, PLACES_WITH_SHEETS, WHERE
from sheetslent.questions import ask
from sheetslent.things import Ledger


def answers(calls):
    ledger = Ledger()
    told = []
    start = 0
    while start < len(calls):
        place = calls[start]
        end = start + 1 + NUMBER_COUNTS[place]
        numbers = calls[start + 1:end]
        sheets = []
        if place in PLACES_WITH_SHEETS:
            first = end + 1
            end = first + calls[end]
            sheets = calls[first:end]
        answer = answer_of(ledger, place, numbers, sheets)
        told.append(len(answer))
        told.extend(answer)
        start = end
    return told


def answer_of(ledger, place, numbers, sheets):
    if place == HOUSE:
        return [add_house(ledger, numbers[0])]
    if place == PERSON:
        return [add_person(ledger, numbers[0], numbers[1], numbers[2])]
    # The questions stand behind the entries; where is the first of them.
    if place < WHERE:
        return [enter(ledger, place, numbers, sheets)]
    return ask(ledger, place, numbers)
