"""Rounds: how many rounds of pointing and replying some pairs last."""

from twinrounds.matchings import all_fit, fits_with, refuse_strange_pairs


def unpaired(size, paired):
    return [thing for thing in range(size) if thing not in paired]


# The ranks of pairs of two worlds. The same pairs come up by many ways of
# pointing and replying, so what was reckoned once is kept.
class Ranks:
    def __init__(self, one, other):
        self.one = one
        self.other = other
        self.reckoned = {}
        # A rank that is a count is at most the greater size, so that one more
        # stands for None and is greater than every count, as None is.
        self.endless = max(one.size, other.size) + 1

    def rank_of(self, pairs):
        known = tuple(sorted(set(pairs)))
        if known not in self.reckoned and not all_fit(self.one, self.other, known):
            self.reckoned[known] = 0
        return self.rank_of_fitting(known)

    def rank_of_fitting(self, pairs):
        if pairs not in self.reckoned:
            self.reckoned[pairs] = self.least_rank(pairs)
        return self.reckoned[pairs]

    def rank_with(self, pairs, further):
        if not fits_with(self.one, self.other, pairs, further):
            return 0
        return self.rank_of_fitting(tuple(sorted(pairs + (further,))))

    def best_rank(self, pairs, choices):
        return max([self.rank_with(pairs, further) for further in choices], default=0)

    # Pointing at a thing of a pair is answered by the other one of it and
    # changes nothing, and such a thing is no reply that fits to any other: so
    # only the things of no pair are gone through.
    def least_rank(self, pairs):
        firsts = unpaired(self.one.size, [pair[0] for pair in pairs])
        seconds = unpaired(self.other.size, [pair[1] for pair in pairs])
        reached = []
        for first in firsts:
            reached.append(self.best_rank(pairs, [(first, second) for second in seconds]))
        for second in seconds:
            reached.append(self.best_rank(pairs, [(first, second) for first in firsts]))
        return min(self.endless, 1 + min(reached, default=self.endless))

    def told_rank(self, pairs):
        reached = self.rank_of(pairs)
        return None if reached == self.endless else reached

    def last(self, pairs, count):
        reached = self.rank_of(pairs)
        return reached == self.endless or count < reached


def lasts(one, other, pairs, count):
    refuse_strange_pairs(one, other, pairs)
    return Ranks(one, other).last(pairs, count)


def rank(one, other, pairs):
    refuse_strange_pairs(one, other, pairs)
    return Ranks(one, other).told_rank(pairs)


def first_alike(ranks, thing, count):
    return min([earlier for earlier in range(thing + 1) if ranks.last([(earlier, thing)], count)])


def groups(world, count):
    ranks = Ranks(world, world)
    firsts = [first_alike(ranks, thing, count) for thing in range(world.size)]
    told = []
    for first in sorted(set(firsts)):
        told.append([thing for thing in range(world.size) if firsts[thing] == first])
    return told
