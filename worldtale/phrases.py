"""Which things the words of a line fit."""

from worldtale.reach import seen_things


def known_words(world):
    """All nouns and adjectives of things, rising, each once."""
    found = []
    for thing in world.thing_names():
        found.extend([world.noun_of(thing), *world.adjectives_of(thing)])
    return sorted(set(found))


def fits_noun(world, thing, noun):
    """Whether a thing has these adjectives and, behind them, this noun."""
    return noun[-1] == world.noun_of(thing) and has_adjectives(world, thing, noun[:-1])


def fits_answer(world, thing, words):
    """Whether a thing fits, the last word being its noun or one of its adjectives."""
    return fits_noun(world, thing, words) or has_adjectives(world, thing, words)


def has_adjectives(world, thing, words):
    adjectives = world.adjectives_of(thing)
    return all([word in adjectives for word in words])


def seen_fits(state, noun):
    """The seen things that fit a NOUN, in the world's order."""
    world = state.told_world()
    return [thing for thing in seen_things(state) if fits_noun(world, thing, noun)]
