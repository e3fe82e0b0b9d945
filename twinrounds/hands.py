"""Two hands: where the one points at some pairs, and what the other replies."""

from twinrounds.errors import NoPointing
from twinrounds.matchings import refuse_strange_pairs
from twinrounds.rounds import Ranks
from twinrounds.worlds import refuse_no_thing


def size_of_side(ranks, side):
    return ranks.one.size if side == 0 else ranks.other.size


def pair_of(side, thing, replied):
    return (thing, replied) if side == 0 else (replied, thing)


# One for each reply, in the order of the other world's things.
def new_pairs(ranks, side, thing):
    return [pair_of(side, thing, replied) for replied in range(size_of_side(ranks, 1 - side))]


def ranks_behind(ranks, pairs, side, thing):
    return [ranks.rank_of(pairs + [pair]) for pair in new_pairs(ranks, side, thing)]


# The first good one in the order of sides and things, so that at the same
# pairs, in whatever order they came, the same is pointed at.
def good_pointing(ranks, pairs):
    reached = ranks.rank_of(pairs)
    if reached == 0 or reached == ranks.endless:
        raise NoPointing("no pointing lowers the rank of these pairs")
    for side in (0, 1):
        for thing in range(size_of_side(ranks, side)):
            if max(ranks_behind(ranks, pairs, side, thing), default=0) < reached:
                return (side, thing)


def best_reply(ranks, pairs, side, thing):
    refuse_no_thing(size_of_side(ranks, side), thing)
    behind = ranks_behind(ranks, pairs, side, thing)
    return behind.index(max(behind)) if len(behind) > 0 else None


def pointing(one, other, pairs):
    refuse_strange_pairs(one, other, pairs)
    return good_pointing(Ranks(one, other), list(pairs))


def reply(one, other, pairs, side, thing):
    refuse_strange_pairs(one, other, pairs)
    return best_reply(Ranks(one, other), list(pairs), side, thing)
