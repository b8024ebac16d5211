"""What the document says of programs, spelled out by trying everything; and programs to try it on."""

import random
from functools import lru_cache
from itertools import combinations, permutations, product
from math import gcd

from pauseplaces.programs import Program
from pauseplaces.rows import done
from tests.things import all_rows


def row(*action, when=()):
    return (action, tuple(when))


def example_programs():
    """The programs P and Q of the interface's examples."""
    P = Program((2, 2), (row("mix", 0, 1, 1), row("add", 1, 1)), pauses=(1,))
    return P, Program((2, 2), (row("add", 1, 1),))


def three_programs():
    """The programs P, Q, R of point 12."""
    shape = (2, 2, 2)
    return [Program(shape, (one,)) for one in
            (row("add", 1, 1), row("mix", 0, 1, 1, when=((2, 1),)), row("add", 2, 1))]


def counting(many, pauses=(), shape=(2,)):
    """A program that adds 1 to the first digit, row by row."""
    return Program(shape, (row("add", 0, 1),) * many, pauses=tuple(pauses))


def blocker(many, pauses=(), shape=(2, 2)):
    """A program that scarcely goes with counting: it adds 1 to the second digit if the first one is 0."""
    return Program(shape, (row("add", 1, 1, when=((0, 0),)),) * many, pauses=tuple(pauses))


def row_loses(shape, one):
    action = one[0]
    if action[0] == "scale":
        return gcd(action[2], shape[action[1]]) != 1
    return action[0] in ("set", "copy")


@lru_cache(maxsize=None)
def rows_of(shape, losing):
    return [one for one in all_rows(shape) if losing or not row_loses(shape, one)]


@lru_cache(maxsize=None)
def rows_with(shape, word):
    """Rows with a word that do something, most of them often."""
    return [one for one in all_rows(shape) if one[0][0] == word and len(one[1]) < 2
            and (one[0][-1] != 0 or word in ("set", "copy"))]


def some_row(rng, shape, losing):
    if rng.random() < 0.2:
        return rng.choice(rows_of(shape, losing))
    words = ("add", "mix", "swap", "set", "copy") if losing else ("add", "mix", "swap")
    words = [word for word in words if rows_with(shape, word)]
    return rng.choice(rows_with(shape, rng.choice(words)))


def some_program(rng, shape, most_rows, *, losing=False, most_pauses=8):
    many = rng.randint(0, most_rows)
    rows = tuple(some_row(rng, shape, losing) for _ in range(many))
    inner = list(range(1, many))
    chosen = rng.sample(inner, min(len(inner), rng.randint(0, most_pauses)))
    return Program(shape, rows, pauses=tuple(sorted(chosen)))


def some_programs(rng, shape, many, most_rows, **more):
    programs = [some_program(rng, shape, most_rows, **more) for _ in range(many)]
    if many > 1 and rng.random() < 0.2:
        programs[-1] = programs[0]
    return programs


def some_state(rng, shape):
    return tuple(rng.randrange(base) for base in shape)


def all_states(shape):
    return list(product(*[range(base) for base in shape]))


def after_rows(shape, rows, state):
    for one in rows:
        state = done(shape, one, state)
    return state


def positions(programs):
    return list(product(*[program.places for program in programs]))


def order_end(programs, start, places, order):
    state = start
    for k in order:
        state = after_rows(programs[k].shape, programs[k].rows[:places[k]], state)
    return state


def order_ends(programs, start, places):
    """The states to which the orders of a position lead."""
    return {order_end(programs, start, places, order)
            for order in permutations(range(len(programs)))}


def is_right(programs, start):
    return all(len(order_ends(programs, start, places)) == 1 for places in positions(programs))


def stretch_rows(program, at):
    return program.rows[program.places[at]:program.places[at + 1]]


def weave(programs, start, entries):
    """The states before and after each entry of a beginning."""
    executed = [0] * len(programs)
    states = [start]
    for k in entries:
        states.append(after_rows(programs[k].shape, stretch_rows(programs[k], executed[k]), states[-1]))
        executed[k] += 1
    return states


def all_weavings(programs):
    """All weavings, ascending, by recursion over the first entry."""
    def behind(left):
        if not any(left):
            return [[]]
        found = []
        for k, many in enumerate(left):
            if many > 0:
                less = left[:k] + (many - 1,) + left[k + 1:]
                found += [[k] + rest for rest in behind(less)]
        return found
    return behind(tuple(len(program.places) - 1 for program in programs))


def beginning_position(programs, entries):
    return tuple(program.places[entries.count(k)] for k, program in enumerate(programs))


def differ_in_one_exchange(one, other):
    """Whether two lists differ only in the exchange of two neighbouring entries that differ."""
    at = [k for k in range(len(one)) if one[k] != other[k]]
    return (len(one) == len(other) and len(at) == 2 and at[1] == at[0] + 1
            and one[at[0]] == other[at[1]] and one[at[1]] == other[at[0]])


def subsets(things):
    return [some for many in range(len(things) + 1) for some in combinations(things, many)]


def pair_is_right(first, second, starts, one, other):
    """Whether the choice of these wishes is right for the starts (point 15)."""
    kept = [Program(first.shape, first.rows, pauses=one), Program(second.shape, second.rows, pauses=other)]
    return all(is_right(kept, start) for start in starts)


def rng(seed):
    return random.Random(seed)


def patterned(wishes, patterns):
    """Two programs of which, from the start (0, 0, s), just the positions of pattern s clash.

    wishes tells how many wishes they have; a pattern is a set of pairs (i, j) of a place
    other than 0 of each: its index among the wishes, or their number for the end.
    """
    shape = (wishes[0] + 2, 2, len(patterns))
    if len(patterns) == 1:
        shape = shape[:2] + (2,)
    first = Program(shape, (row("add", 0, 1),) * (wishes[0] + 1), pauses=tuple(range(1, wishes[0] + 1)))
    rows, places, before = [], [], set()
    for j in range(wishes[1] + 1):
        # The second program's prefix adds 1 to the second digit where the pattern says so.
        now = {(i, s) for s, pattern in enumerate(patterns) for i, k in pattern if k == j}
        rows += [row("add", 1, 1, when=((0, i + 1), (2, s))) for i, s in sorted(now ^ before)]
        if now == before:
            rows.append(row("add", 1, 0))
        places.append(len(rows))
        before = now
    return first, Program(shape, tuple(rows), pauses=tuple(places[:-1]))


def some_pattern(source, wishes, *, ends=False, chance=None):
    chance = source.random() if chance is None else chance
    pairs = [(i, j) for i in range(wishes[0] + 1) for j in range(wishes[1] + 1) if (i, j) != wishes]
    pattern = {pair for pair in pairs if source.random() < chance}
    if not ends:
        pattern = {(i, j) for i, j in pattern if i < wishes[0] and j < wishes[1]}
    return pattern


def clash_set(first, second, starts):
    """All positions of two programs that clash from one of the starts."""
    return {places for places in positions([first, second]) for start in starts
            if len(order_ends([first, second], start, places)) > 1}


def point_21_at_the_end():
    """The programs P and Q of the first example of point 21."""
    P = Program((2,), (row("add", 0, 1), row("set", 0, 0)), pauses=(1,))
    return [P, Program((2,), (row("set", 0, 0),))]


def point_21_pauses(pauses):
    """The programs P, with some pauses, and Q of the second example of point 21."""
    shape = (4, 4, 2)
    rows = (row("copy", 1, 0), row("mix", 2, 1, 1, when=((0, 2),)), row("set", 1, 0))
    return [counting(3, pauses, shape), Program(shape, rows, pauses=(1,))]


def choices(seed, many, *, losing):
    """Lists of up to four programs with at most 6 stretches, each with a start."""
    none, P = Program((2, 2), ()), Program((2, 2), (row("mix", 0, 1, 1), row("add", 1, 1)), pauses=(1,))
    found = [([], (0, 1)), ([none], (1, 1)), ([none, none], (0, 1)), ([none, P, none], (0, 0)),
             ([P] * 3, (0, 1)), ([counting(1, shape=(2, 2))] * 4, (1, 0))]
    if losing:
        clear = Program((2, 2), (row("set", 0, 0), row("copy", 1, 0)), pauses=(1,))
        found += [([clear], (1, 1)), ([clear, clear], (0, 1)), ([clear, P, none], (1, 1)),
                  (point_21_at_the_end(), (0,)), (point_21_pauses((1, 2)), (0, 0, 0))]
    source = rng(seed)
    for _ in range(many):
        shape = source.choice([(2,), (2, 2), (3, 2), (4,), (4, 2, 2)])
        count = source.randint(1, 4)
        programs = some_programs(source, shape, count, 6 - count, losing=losing, most_pauses=6 // count - 1)
        found.append((programs, some_state(source, shape)))
    return found


def woven_states(programs, start):
    """A dict from all positions to the sets of their states, by executing all weavings."""
    found = {places: set() for places in positions(programs)}
    for weaving in all_weavings(programs):
        for many, state in enumerate(weave(programs, start, weaving)):
            found[beginning_position(programs, weaving[:many])].add(state)
    return found


def weave_rounds(programs, start, entries):
    """The states before and after each entry of a beginning in rounds."""
    executed = [0] * len(programs)
    states = [start]
    for k in entries:
        at = executed[k] % (len(programs[k].places) - 1)
        states.append(after_rows(programs[k].shape, stretch_rows(programs[k], at), states[-1]))
        executed[k] += 1
    return states


def round_closure(programs, start, rounds):
    """All states to which whole programs in rounds lead."""
    found, new = {start}, [start]
    while new:
        state = new.pop()
        for k in rounds:
            end = after_rows(programs[k].shape, programs[k].rows, state)
            if end not in found:
                found.add(end)
                new.append(end)
    return found
