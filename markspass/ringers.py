"""Readers that ring at the first mark that is answered 1, and the least rows in which one rings wrongly."""

from markspass.alarms import checked_quiet, is_ringable, quiet_from
from markspass.errors import TooMany
from markspass.faults import is_fault
from markspass.questions import lots_of_least, names_of
from markspass.readers import NAMED, check_reading, given_along, ways_to_close, wrong_part
from markspass.rows import answers_due, is_row
from markspass.searches import errs_nowhere, short_fault

MOST_RINGER_STATES = 20
MOST_RUNG_STATES = 4


def rings_right(question, manner, reader):
    """Whether a reader rings rightly in every row."""
    check_reading(question, manner, reader, MOST_RINGER_STATES)
    return errs_nowhere(quiet_from(question), manner, reader, silent=True)


def ring_fault(question, manner, reader):
    """A row of as few tags as can be at the last tag of which a reader first rings wrongly, None without any."""
    check_reading(question, manner, reader, MOST_RINGER_STATES)
    return short_fault(quiet_from(question), manner, reader, silent=True)


def is_silent_ahead(question, manner, reader, row):
    """Whether no 1 is due and none is given along a row, ahead of its last opening."""
    return 1 not in answers_due(question, row)[:-1] and 1 not in given_along(manner, reader, row)[:-1]


def shows_ring_fault(question, manner, reader, value):
    """Whether a value is one that ring_fault may return."""
    least = ring_fault(question, manner, reader)
    if value is None:
        return least is None
    if least is None or not is_row(names_of(question), value) or len(value) != len(least):
        return False
    return is_fault(question, manner, reader, value) and is_silent_ahead(question, manner, reader, value)


def silent_nexts(quiet):
    """For each lot of silent states, the lots that follow, name by name, None where a 1 is due."""
    steps, answers = quiet
    lots = lots_of_least(quiet)
    return {
        lots[state]: [None if answers[there] == 1 else lots[there] for there in nexts]
        for state, nexts in enumerate(steps)
        if answers[state] == 0
    }


def lots_reached(nexts, lot):
    """The lots to which paths lead from a lot, that one itself with them."""
    found = {lot: True}
    waiting = [lot]
    while len(waiting) > 0:
        here = waiting.pop()
        for there in nexts[here]:
            if there is not None and there not in found:
                found[there] = True
                waiting.append(there)
    return list(found)


def rounds_of(nexts):
    """The pairs of lots of one round: paths lead from each of them to the other, or they are the same."""
    reached = {lot: lots_reached(nexts, lot) for lot in nexts}
    return {(lot, there): True for lot in nexts for there in reached[lot] if lot in reached[there]}


def lots_back(nexts, rounds, manner):
    """For a lot and a way to close, the lot of its own round from which such a mark led to it, where there is one."""
    # If some reader rings rightly, no mark that would be closed so leads to
    # the lot from any other lot, of its round or of another.
    return {
        (there, name if manner == NAMED else 0): lot
        for lot in nexts
        for name, there in enumerate(nexts[lot])
        if (lot, there) in rounds
    }


def behind_opening(rounds, pile, lot):
    """The pile behind an opening that leads to a lot."""
    return (*pile[:-1], lot) if (pile[-1], lot) in rounds else (*pile, lot)


def behind_way_to_close(back, pile, way):
    """The pile behind a closing."""
    if (pile[-1], way) in back:
        return (*pile[:-1], back[pile[-1], way])
    return pile[:-1] if len(pile) > 1 else pile


def all_piles(nexts, rounds, first):
    """All piles that are come to from the first lot: the last lot of each round that was left, and the lot there."""
    piles = [(first,)]
    turn = 0
    while turn < len(piles):
        pile = piles[turn]
        further = [behind_opening(rounds, pile, lot) for lot in nexts[pile[-1]] if lot is not None]
        for longer in further:
            if longer not in piles:
                piles.append(longer)
        turn += 1
    return piles


def reader_of_piles(quiet, manner):
    """The reader that rings rightly, if any does, its states being the piles of lots of the quiet question."""
    # No round is come to twice, so there are only so many piles; and that a
    # pile suffices is what lots_back says.
    nexts = silent_nexts(quiet)
    rounds = rounds_of(nexts)
    back = lots_back(nexts, rounds, manner)
    piles = all_piles(nexts, rounds, lots_of_least(quiet)[0])
    numbers = {pile: number for number, pile in enumerate(piles)}
    opens = [
        [(0, 1) if lot is None else (numbers[behind_opening(rounds, pile, lot)], 0) for lot in nexts[pile[-1]]]
        for pile in piles
    ]
    ways = range(ways_to_close(names_of(quiet), manner))
    closes = [[numbers[behind_way_to_close(back, pile, way)] for way in ways] for pile in piles]
    return tuple([tuple(pairs) for pairs in opens]), tuple([tuple(goals) for goals in closes])


def checked_rung(question, manner):
    """The quiet question of a question of few states, or the error of the first of these arguments that is wrong."""
    quiet = checked_quiet(question, manner)
    if len(question[0]) > MOST_RUNG_STATES:
        raise TooMany(MOST_RUNG_STATES)
    return quiet


def ringer(question, manner):
    """A reader of at most 20 states that rings rightly, None if no reader does."""
    quiet = checked_rung(question, manner)
    return reader_of_piles(quiet, manner) if is_ringable(quiet, manner) else None


def shows_ringer(question, manner, value):
    """Whether a value is one that ringer may return."""
    quiet = checked_rung(question, manner)
    if value is None:
        return not is_ringable(quiet, manner)
    if wrong_part(names_of(question), manner, value, MOST_RINGER_STATES) is not None:
        return False
    return errs_nowhere(quiet, manner, value, silent=True)
