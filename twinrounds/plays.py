"""Plays: two worlds, and the pairs that pointing and answering put to them."""

from twinrounds.hands import best_reply, good_pointing, pair_of, size_of_side
from twinrounds.matchings import all_fit, refuse_unlike
from twinrounds.rounds import Ranks
from twinrounds.worlds import refuse_above, refuse_no_thing

MOST_PAIRS = 5


class Play:
    def __init__(self, one, other):
        refuse_unlike(one, other)
        self.ranks = Ranks(one, other)
        self.put = []

    def refuse_sixth_pair(self):
        refuse_above(len(self.put) + 1, MOST_PAIRS)

    def point(self, side, thing):
        self.refuse_sixth_pair()
        replied = best_reply(self.ranks, self.put, side, thing)
        if replied is not None:
            self.put.append(pair_of(side, thing, replied))
        return replied

    def ask(self):
        self.refuse_sixth_pair()
        return good_pointing(self.ranks, self.put)

    def answer(self, thing):
        pointed = self.ask()
        refuse_no_thing(size_of_side(self.ranks, 1 - pointed[0]), thing)
        self.put.append(pair_of(pointed[0], pointed[1], thing))
        return self.rank()

    def pairs(self):
        return list(self.put)

    def fits(self):
        return all_fit(self.ranks.one, self.ranks.other, self.put)

    def rank(self):
        return self.ranks.told_rank(self.put)
