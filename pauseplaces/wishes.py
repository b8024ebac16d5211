"""Wishes: which pauses of two programs are given up at the least price, and why."""

from pauseplaces.errors import BadPrices, NoPause
from pauseplaces.integers import is_within
from pauseplaces.largest import clashes_but_ends

_GREATEST_PRICE = 1000


class Deal:
    """The prices of the places of two programs, and numbers on their clashes.

    A node is a pair of which program, 0 or 1, and one of its wishes or its end.
    """

    def __init__(self, weights, clashing):
        self.weights = weights
        self.numbers = {pair: 0 for pair in clashing}

    def room(self, node):
        """Return by how much the numbers at a node add up to less than its price."""
        which, place = node
        here = [self.numbers[pair] for pair in self.numbers if pair[which] == place]
        return self.weights[which][place] - sum(here)

    def fill(self):
        """Raise the sum of the numbers until it is the price of a least choice."""
        chain = self.chain_between_rooms()
        while chain is not None:
            self.shift(chain)
            chain = self.chain_between_rooms()

    def chain_between_rooms(self):
        """Return a chain from the first to the second program with room at both ends, or None."""
        ahead = self.reached(0)
        for node in ahead:
            if node[0] == 1 and self.room(node) > 0:
                return _chain_to(ahead, node)
        return None

    def shift(self, chain):
        """Raise the numbers along a chain, and lower those that it goes along backwards."""
        pairs = [_pair_of(node, other) for node, other in zip(chain, chain[1:])]
        back = [self.numbers[pair] for pair in pairs[1::2]]
        more = min([self.room(chain[0]), self.room(chain[-1])] + back)
        for pair in pairs[::2]:
            self.numbers[pair] += more
        for pair in pairs[1::2]:
            self.numbers[pair] -= more

    def reached(self, which):
        """Return the nodes of all chains that begin in a program.

        It is a dict from each node to the one ahead of it, None if it is a first one.
        """
        queue = [(which, place) for place in self.weights[which]]
        queue = [node for node in queue if self.room(node) > 0]
        ahead = {node: None for node in queue}
        at = 0
        while at < len(queue):
            node = queue[at]
            for other in self.behind(node, which):
                if other not in ahead:
                    ahead[other] = node
                    queue.append(other)
            at += 1
        return ahead

    def behind(self, node, which):
        """Return the nodes that may follow a node in a chain that begins in a program."""
        own, place = node
        pairs = [pair for pair in self.numbers if pair[own] == place]
        if own != which:
            pairs = [pair for pair in pairs if self.numbers[pair] > 0]
        return [(1 - own, pair[1 - own]) for pair in pairs]


def _pair_of(node, other):
    """Return the clash of two neighbouring nodes of a chain."""
    return (node[1], other[1]) if node[0] == 0 else (other[1], node[1])


def _chain_to(ahead, node):
    """Return the chain that ends with a node."""
    chain = []
    while node is not None:
        chain.append(node)
        node = ahead[node]
    return chain[::-1]


def _deal(first, second, starts, prices):
    """Return the deal of two programs with its final numbers."""
    clashing = clashes_but_ends(first, second, starts)
    deal = Deal(_weights((first, second), prices), clashing)
    deal.fill()
    return deal


def _weights(programs, prices):
    """Return two dicts from the wishes and the ends to prices; raise BadPrices."""
    if prices is None:
        prices = ({}, {})
    if not _are_prices(programs, prices):
        raise BadPrices()
    weights = []
    for program, given in zip(programs, prices):
        weights.append({wish: given.get(wish, 1) for wish in program.pauses})
    # No end is given up, as if it cost more than all wishes.
    most = 1 + sum([price for priced in weights for price in priced.values()])
    weights[0][len(programs[0])] = most
    weights[1][len(programs[1])] = most
    return weights


def _are_prices(programs, thing):
    if not isinstance(thing, tuple) or len(thing) != 2:
        return False
    for program, given in zip(programs, thing):
        if not isinstance(given, dict) or not all([key in program for key in given]):
            return False
        if not all([is_within(price, 1, _GREATEST_PRICE) for price in given.values()]):
            return False
    return True


def must_go(first, second, starts):
    """Return two ascending tuples of the wishes that have to go."""
    clashing = clashes_but_ends(first, second, starts)
    ones = [wish for wish in first.pauses if (wish, len(second)) in clashing]
    others = [wish for wish in second.pauses if (len(first), wish) in clashing]
    return tuple(ones), tuple(others)


def least(first, second, starts, *, prices=None):
    """Return two ascending tuples of the wishes that the least choice gives up."""
    deal = _deal(first, second, starts, prices)
    # Of the first program it gives up only what every least choice gives up.
    return _given_up((first, second), deal, 1)


def _given_up(programs, deal, which):
    """Return what is given up by the least choice that gives up most wishes of a program."""
    reached = deal.reached(which)
    found = []
    for k, program in enumerate(programs):
        # Chains that begin in a program reach those of its wishes that are never given up,
        # and those of the other program that always are.
        gone = [wish for wish in program.pauses if ((k, wish) in reached) == (k != which)]
        found.append(tuple(gone))
    return found[0], found[1]


def numbers(first, second, starts, *, prices=None):
    """Return a dict from clashes to numbers which show that no choice costs less."""
    found = _deal(first, second, starts, prices).numbers
    return {pair: found[pair] for pair in found if found[pair] > 0}


def fate(first, second, starts, which, wish, *, prices=None):
    """Return whether a wish is given up always, never or sometimes, with evidence."""
    deal = _deal(first, second, starts, prices)
    programs = (first, second)
    if wish not in programs[which]:
        raise NoPause(wish)
    for begin in (0, 1):
        ahead = deal.reached(begin)
        if (which, wish) in ahead:
            word = "never" if which == begin else "always"
            return word, _chain_to(ahead, (which, wish))
    return "sometimes", _given_up(programs, deal, which), _given_up(programs, deal, 1 - which)
