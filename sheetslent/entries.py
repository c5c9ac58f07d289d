"""How an entry is refused, or done and put into the log."""

from sheetslent.lending import back_refusal, cede_refusal, extend_refusal, lend_refusal
from sheetslent.lending import do_back, do_cede, do_extend, do_lend
from sheetslent.making import destroy_refusal, gather_refusal, split_refusal
from sheetslent.making import do_destroy, do_gather, do_split
from sheetslent.naming import determine_refusal, do_determine, do_typify, typify_refusal
from sheetslent.people import do_move, do_rank, move_refusal, rank_refusal
from sheetslent.places import ARRIVE, BACK, CEDE, DESTROY, DETERMINE, EXTEND, FIND, GATHER, GIVE, LEND, LOSE, MOVE
from sheetslent.places import RANK, SPLIT
from sheetslent.things import Entry, Loan
from sheetslent.travel import arrive_refusal, find_refusal, give_refusal, lose_refusal
from sheetslent.travel import do_arrive, do_find, do_give, do_lose
from sheetslent.words import MOST_ENTRIES, is_day


def enter(ledger, place, numbers, sheets):
    day = numbers[0]
    if not is_day(day) or day < ledger.last_day():
        return -1
    refusal = own_refusal(ledger, place, numbers, sheets)
    if refusal != 0:
        return refusal
    if len(ledger.log) >= MOST_ENTRIES:
        return -20
    carry_out(ledger, place, numbers, sheets)
    ledger.log.append(Entry(day, place, numbers, sheets))
    return len(ledger.log)


def own_refusal(ledger, place, numbers, sheets):
    if place == MOVE:
        return move_refusal(ledger, numbers[1], numbers[2])
    if place == RANK:
        return rank_refusal(ledger, numbers[1], numbers[2])
    if place == GATHER:
        return gather_refusal(ledger, numbers[1], numbers[2], numbers[3], numbers[4])
    if place == SPLIT:
        return split_refusal(ledger, numbers[1], numbers[2], numbers[3])
    if place == LEND:
        return lend_refusal(ledger, numbers[0], numbers[1], loan_told(numbers), sheets)
    if place == ARRIVE:
        return arrive_refusal(ledger, sheets)
    if place == BACK:
        return back_refusal(ledger, numbers[1], sheets)
    if place == GIVE:
        return give_refusal(ledger, numbers[1], numbers[2], sheets)
    if place == CEDE:
        return cede_refusal(ledger, numbers[1])
    if place == EXTEND:
        return extend_refusal(ledger, numbers[1], numbers[2])
    if place == LOSE:
        return lose_refusal(ledger, sheets)
    if place == FIND:
        return find_refusal(ledger, sheets)
    if place == DESTROY:
        return destroy_refusal(ledger, numbers[1])
    if place == DETERMINE:
        return determine_refusal(ledger, numbers[1], numbers[2], numbers[3], numbers[4])
    return typify_refusal(ledger, numbers[1], numbers[2])


def carry_out(ledger, place, numbers, sheets):
    if place == MOVE:
        do_move(ledger, numbers[1], numbers[2])
    elif place == RANK:
        do_rank(ledger, numbers[1], numbers[2])
    elif place == GATHER:
        do_gather(ledger, numbers[1], numbers[2], numbers[3], numbers[4])
    elif place == SPLIT:
        do_split(ledger, numbers[1], numbers[2], numbers[3])
    elif place == LEND:
        do_lend(ledger, numbers[1], loan_told(numbers), sheets)
    elif place == ARRIVE:
        do_arrive(ledger, sheets)
    elif place == BACK:
        do_back(ledger, sheets)
    elif place == GIVE:
        do_give(ledger, numbers[2], sheets)
    elif place == CEDE:
        do_cede(ledger, numbers[1])
    elif place == EXTEND:
        do_extend(ledger, numbers[1], numbers[2])
    elif place == LOSE:
        do_lose(ledger, sheets)
    elif place == FIND:
        do_find(ledger, sheets)
    elif place == DESTROY:
        do_destroy(ledger, numbers[1])
    elif place == DETERMINE:
        do_determine(ledger, numbers[0], numbers[1], numbers[2], numbers[3], numbers[4])
    else:
        do_typify(ledger, numbers[1], numbers[2])


def loan_told(numbers):
    return Loan(numbers[2], numbers[3], numbers[4], numbers[5])
