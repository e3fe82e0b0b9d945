"""Sayings: what can be said of a world's things, and whether it is so."""

from twinrounds.errors import NoName, NoWord
from twinrounds.worlds import refuse_no_thing

FACTS = ("mark", "tie", "same")
BINDERS = ("some", "all")


def sayings_in(saying):
    if saying[0] in FACTS:
        return ()
    if saying[0] in BINDERS:
        return saying[2:]
    return saying[1:]


def names_in(fact):
    if fact[0] == "same":
        return fact[1:]
    return fact[2:]


def depth(saying):
    within = max([depth(part) for part in sayings_in(saying)], default=0)
    if saying[0] in BINDERS:
        return within + 1
    return within


def free_names(saying):
    if saying[0] in FACTS:
        return sorted(set(names_in(saying)))
    names = []
    for part in sayings_in(saying):
        names.extend(free_names(part))
    if saying[0] in BINDERS:
        names = [name for name in names if name != saying[1]]
    return sorted(set(names))


def parts(saying):
    return 1 + sum([parts(part) for part in sayings_in(saying)])


def refuse_unplaced(world, names, places):
    for name in names:
        if name not in places:
            raise NoName(name)
    for name in names:
        refuse_no_thing(world.size, places[name])


def refuse_strange_words(world, saying):
    if saying[0] == "mark" and saying[1] not in world.marked:
        raise NoWord(saying[1])
    if saying[0] == "tie" and saying[1] not in world.tied:
        raise NoWord(saying[1])
    for part in sayings_in(saying):
        refuse_strange_words(world, part)


# A case is one choice of things for the bound names that a part stands within.
# All cases are answered together, each by one bit of a whole number, so that
# every part is looked at once: six names bound over five things make 15625
# cases, too many to walk a long saying for each of them.
def every_case(width):
    return (1 << width) - 1


def repeated(cases, width, times):
    row = 0
    for turn in range(times):
        row = (row << width) | cases
    return row


# A mark is told like a tie from each of its things to itself, and so is "same",
# so that one walk over pairs serves all three sorts of facts.
def pairs_of(world, fact):
    if fact[0] == "mark":
        return [(thing, thing) for thing in world.marked[fact[1]]]
    if fact[0] == "same":
        return [(thing, thing) for thing in range(world.size)]
    return list(world.tied[fact[1]])


# spots has for each name, thing by thing, the cases in which it stands for that thing.
def fact_cases(world, fact, spots):
    names = names_in(fact)
    first = spots[names[0]]
    last = spots[names[-1]]
    cases = 0
    for one, other in pairs_of(world, fact):
        cases = cases | (first[one] & last[other])
    return cases


# Within a "some" or "all" each case becomes as many as there are things: the
# bits of all old cases stand once for each thing, one block behind another.
def widened(world, name, spots, width):
    wide = {}
    for known in spots:
        wide[known] = [repeated(cases, width, world.size) for cases in spots[known]]
    wide[name] = [every_case(width) << (thing * width) for thing in range(world.size)]
    return wide


def bound_cases(world, saying, spots, width):
    wide = widened(world, saying[1], spots, width)
    within = cases_so(world, saying[2], wide, width * world.size)
    blocks = [(within >> (thing * width)) & every_case(width) for thing in range(world.size)]
    some = 0
    every = every_case(width)
    for block in blocks:
        some = some | block
        every = every & block
    if saying[0] == "some":
        return some
    return every


def cases_so(world, saying, spots, width):
    if saying[0] in FACTS:
        return fact_cases(world, saying, spots)
    if saying[0] in BINDERS:
        return bound_cases(world, saying, spots, width)
    first = cases_so(world, saying[1], spots, width)
    if saying[0] == "not":
        return every_case(width) ^ first
    second = cases_so(world, saying[2], spots, width)
    if saying[0] == "both":
        return first & second
    return first | second


def is_so(world, saying, places=None):
    given = {} if places is None else places
    names = free_names(saying)
    refuse_unplaced(world, names, given)
    refuse_strange_words(world, saying)
    spots = {}
    for name in names:
        spots[name] = [1 if thing == given[name] else 0 for thing in range(world.size)]
    return cases_so(world, saying, spots, 1) == 1
