"""Tellings: a saying that tells two worlds apart, and the portrait of a world."""

from twinrounds.hands import good_pointing, new_pairs
from twinrounds.matchings import refuse_strange_pairs
from twinrounds.rounds import Ranks
from twinrounds.sayings import is_so
from twinrounds.worlds import LETTERS


# In halves, so that few of many sayings lie one within another.
def halved(sort, sayings):
    if len(sayings) == 1:
        return sayings[0]
    middle = len(sayings) // 2
    return (sort, halved(sort, sayings[:middle]), halved(sort, sayings[middle:]))


# Of no sayings all are so and none is, and only the name is there to say it with.
def joined(sort, sayings, name):
    if len(sayings) > 0:
        return halved(sort, sayings)
    always = ("same", name, name)
    return always if sort == "both" else ("not", always)


# What can be said of the last name, by itself and with each one ahead of it.
def facts_of_last(world, names):
    last = names[-1]
    facts = [("same", name, last) for name in names[:-1]]
    facts.extend([("mark", word, last) for word in world.mark_words()])
    for word in world.tie_words():
        facts.append(("tie", word, last, last))
        for name in names[:-1]:
            facts.append(("tie", word, name, last))
            facts.append(("tie", word, last, name))
    return facts


def places_of(things):
    return dict(zip(LETTERS, things))


def as_it_is(world, fact, places):
    return fact if is_so(world, fact, places) else ("not", fact)


# From the last letter on back: a pair that was put to others which fit is the
# one that doesn't.
def fact_apart(one, other, pairs):
    firsts = places_of([pair[0] for pair in pairs])
    seconds = places_of([pair[1] for pair in pairs])
    for count in range(len(pairs), 0, -1):
        for fact in facts_of_last(one, LETTERS[:count]):
            told = as_it_is(one, fact, firsts)
            if told != as_it_is(other, fact, seconds):
                return told


# A reply that is a thing of a pair is answered by a fact at once, so that fewer
# and fewer replies need more than that: five things make at most 2680 parts.
def told_apart(ranks, pairs):
    if ranks.rank_of(pairs) == 0:
        return fact_apart(ranks.one, ranks.other, pairs)
    pointed = good_pointing(ranks, pairs)
    tellings = []
    for pair in new_pairs(ranks, pointed[0], pointed[1]):
        told = told_apart(ranks, pairs + [pair])
        if told not in tellings:
            tellings.append(told)
    name = LETTERS[len(pairs)]
    if pointed[0] == 0:
        return ("some", name, joined("both", tellings, name))
    return ("all", name, joined("either", tellings, name))


def telling(one, other, pairs):
    refuse_strange_pairs(one, other, pairs)
    ranks = Ranks(one, other)
    if ranks.rank_of(pairs) == ranks.endless:
        return None
    return told_apart(ranks, list(pairs))


# What is left to say where the first things, so many of them, have their letters.
def portrait_behind(world, count):
    name = LETTERS[count]
    if count == world.size:
        return ("all", name, joined("either", [("same", name, known) for known in LETTERS[:count]], name))
    places = places_of(list(range(count + 1)))
    told = [as_it_is(world, fact, places) for fact in facts_of_last(world, LETTERS[:count + 1])]
    return ("some", name, joined("both", told + [portrait_behind(world, count + 1)], name))


def portrait(world):
    return portrait_behind(world, 0)
