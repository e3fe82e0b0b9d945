"""Matchings: which pairs of two worlds' things fit, and how whole worlds match."""

from twinrounds.errors import Unlike
from twinrounds.worlds import refuse_no_thing


def refuse_unlike(one, other):
    if one.mark_words() != other.mark_words() or one.tie_words() != other.tie_words():
        raise Unlike("the two worlds have not the same words")


def refuse_strange_pairs(one, other, pairs):
    refuse_unlike(one, other)
    for first, second in pairs:
        refuse_no_thing(one.size, first)
        refuse_no_thing(other.size, second)


def bear_the_same(one, other, pair):
    for word in one.marked:
        if (pair[0] in one.marked[word]) != (pair[1] in other.marked[word]):
            return False
    return True


def lead_the_same(one, other, pair, further):
    for word in one.tied:
        if ((pair[0], further[0]) in one.tied[word]) != ((pair[1], further[1]) in other.tied[word]):
            return False
    return True


def go_together(one, other, pair, further):
    if (pair[0] == further[0]) != (pair[1] == further[1]):
        return False
    return lead_the_same(one, other, pair, further) and lead_the_same(one, other, further, pair)


# Whether pairs that fit still do with a further one: only what the further one
# has to do with them is looked at, since a search asks this over and over.
def fits_with(one, other, pairs, further):
    if not bear_the_same(one, other, further) or not lead_the_same(one, other, further, further):
        return False
    return all([go_together(one, other, pair, further) for pair in pairs])


def all_fit(one, other, pairs):
    return all([fits_with(one, other, pairs[:at], pair) for at, pair in enumerate(pairs)])


def fits(one, other, pairs):
    refuse_strange_pairs(one, other, pairs)
    return all_fit(one, other, pairs)


# The pairs are those to keep, with those chosen put to them. A chosen pair has to
# fit with all of them, so the first thing of one to keep gets that very pair or none.
def completed(one, other, pairs, chosen):
    if len(chosen) == one.size:
        return chosen
    for thing in range(other.size):
        pair = (len(chosen), thing)
        if fits_with(one, other, pairs, pair):
            found = completed(one, other, pairs + [pair], chosen + [thing])
            if found is not None:
                return found
    return None


def matching(one, other, pairs):
    refuse_strange_pairs(one, other, pairs)
    # Pairs that fit use no thing twice, so with one size all of the second are used.
    if one.size != other.size:
        return None
    return completed(one, other, list(pairs), [])
