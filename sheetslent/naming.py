"""Entries that say what a sheet is: determine, typify; and the name that follows from what was said."""

from sheetslent.things import HERE, Determination, holder_of, unlent_sheet_refusal
from sheetslent.words import GREATEST_CONF, is_key


def determine_refusal(ledger, key, person, name, conf):
    if key not in ledger.sheets:
        return -2
    if person not in ledger.persons:
        return -3
    sheet = ledger.sheets[key]
    if sheet.status != HERE:
        return -4
    if ledger.persons[person].house != holder_of(ledger, sheet):
        return -5
    if not is_key(name):
        return -6
    if conf < 0 or conf > GREATEST_CONF:
        return -7
    return 0


def do_determine(ledger, day, key, person, name, conf):
    rank = ledger.persons[person].rank
    ledger.sheets[key].determinations.append(Determination(day, person, rank, name, conf))


def typify_refusal(ledger, key, name):
    refusal = unlent_sheet_refusal(ledger, key)
    if refusal == 0 and not is_key(name):
        refusal = -6
    return refusal


def do_typify(ledger, key, name):
    ledger.sheets[key].typified = name


def counting_weights(determinations):
    """Answer for each determination its weight, 0 if its person said something later."""
    last_places = {}
    for place, said in enumerate(determinations):
        last_places[said.person] = place
    weights = []
    for place, said in enumerate(determinations):
        counts = last_places[said.person] == place
        weights.append(said.rank * (said.conf + 1) if counts else 0)
    return weights


def name_and_weight(determinations):
    weights = counting_weights(determinations)
    sums = {}
    for said, weight in zip(determinations, weights):
        sums[said.name] = sums.get(said.name, 0) + weight
    greatest = 0
    for weight in sums.values():
        greatest = max(greatest, weight)
    name = 0
    for said, weight in zip(determinations, weights):
        # Of several names with the greatest weight the one said last is taken, so later ones overwrite.
        if weight > 0 and sums[said.name] == greatest:
            name = said.name
    return [name, greatest]
