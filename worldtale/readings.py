"""All that the nouns of a clause may mean."""

from worldtale.phrases import seen_fits


def all_readings(state, clause, it):
    """All readings of a clause, ordered by where their things stand in the world."""
    found = [[]]
    for fits in things_fitting(state, clause, it):
        found = [[*reading, thing] for reading in found for thing in fits if thing not in reading]
    return found


def things_fitting(state, clause, it):
    """The things that fit, for each place in a reading of the clause."""
    found = [seen_fits(state, noun) for noun in phrase_nouns(clause)]
    if clause.holder == ("it",):
        found.append([] if it is None else [it])
    elif clause.holder is not None:
        found.append(seen_fits(state, clause.holder[1]))
    return found


def phrase_nouns(clause):
    """The NOUNS of a phrase of NOUNS, none of other phrases."""
    return clause.what[1] if clause.what[:1] == ("some",) else ()


def but_nouns(clause):
    """The NOUNS behind "but"."""
    return clause.what[1] if clause.what[:1] == ("all",) else ()


def holder_nouns(clause):
    """The NOUN of the holder alone, if it is told by one."""
    return () if clause.holder is None else clause.holder[1:]
