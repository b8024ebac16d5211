"""What the document says of programs, spelled out by trying everything; and programs to try it on."""

import random
from functools import lru_cache
from itertools import combinations, permutations, product
from math import gcd

from pauseplaces.programs import Program
from pauseplaces.rows import done
from tests.things import all_rows


def row(*action, when=()):
    return (action, tuple(when))


def example_programs():
    """The programs P and Q of the interface's examples."""
    P = Program((2, 2), (row("mix", 0, 1, 1), row("add", 1, 1)), pauses=(1,))
    return P, Program((2, 2), (row("add", 1, 1),))


def three_programs():
    """The programs P, Q, R of point 12."""
    shape = (2, 2, 2)
    return [Program(shape, (one,)) for one in
            (row("add", 1, 1), row("mix", 0, 1, 1, when=((2, 1),)), row("add", 2, 1))]


def counting(many, pauses=(), shape=(2,)):
    """A program that adds 1 to the first digit, row by row."""
    return Program(shape, (row("add", 0, 1),) * many, pauses=tuple(pauses))


def blocker(many, pauses=(), shape=(2, 2)):
    """A program that scarcely goes with counting: it adds 1 to the second digit if the first one is 0."""
    return Program(shape, (row("add", 1, 1, when=((0, 0),)),) * many, pauses=tuple(pauses))


def row_loses(shape, one):
    action = one[0]
    if action[0] == "scale":
        return gcd(action[2], shape[action[1]]) != 1
    return action[0] in ("set", "copy")


@lru_cache(maxsize=None)
def rows_of(shape, losing):
    return [one for one in all_rows(shape) if losing or not row_loses(shape, one)]


def some_program(rng, shape, most_rows, *, losing=False, most_pauses=8, least_rows=0):
    many = rng.randint(least_rows, most_rows)
    rows = tuple(rng.choice(rows_of(shape, losing)) for _ in range(many))
    inner = list(range(1, many))
    chosen = rng.sample(inner, min(len(inner), rng.randint(0, most_pauses)))
    return Program(shape, rows, pauses=tuple(sorted(chosen)))


def some_programs(rng, shape, many, most_rows, **more):
    programs = [some_program(rng, shape, most_rows, **more) for _ in range(many)]
    if many > 1 and rng.random() < 0.2:
        programs[-1] = programs[0]
    return programs


def some_state(rng, shape):
    return tuple(rng.randrange(base) for base in shape)


def all_states(shape):
    return list(product(*[range(base) for base in shape]))


def after_rows(shape, rows, state):
    for one in rows:
        state = done(shape, one, state)
    return state


def positions(programs):
    return list(product(*[program.places for program in programs]))


def order_end(programs, start, places, order):
    state = start
    for k in order:
        state = after_rows(programs[k].shape, programs[k].rows[:places[k]], state)
    return state


def order_ends(programs, start, places):
    """The states to which the orders of a position lead."""
    return {order_end(programs, start, places, order)
            for order in permutations(range(len(programs)))}


def is_right(programs, start):
    return all(len(order_ends(programs, start, places)) == 1 for places in positions(programs))


def stretch_rows(program, at):
    return program.rows[program.places[at]:program.places[at + 1]]


def weave(programs, start, entries):
    """The states before and after each entry of a beginning."""
    executed = [0] * len(programs)
    states = [start]
    for k in entries:
        states.append(after_rows(programs[k].shape, stretch_rows(programs[k], executed[k]), states[-1]))
        executed[k] += 1
    return states


def all_weavings(programs):
    """All weavings, ascending, by recursion over the first entry."""
    def behind(left):
        if not any(left):
            return [[]]
        found = []
        for k, many in enumerate(left):
            if many > 0:
                less = left[:k] + (many - 1,) + left[k + 1:]
                found += [[k] + rest for rest in behind(less)]
        return found
    return behind(tuple(len(program.places) - 1 for program in programs))


def beginning_position(programs, entries):
    return tuple(program.places[entries.count(k)] for k, program in enumerate(programs))


def differ_in_one_exchange(one, other):
    """Whether two lists differ only in the exchange of two neighbouring entries that differ."""
    at = [k for k in range(len(one)) if one[k] != other[k]]
    return (len(one) == len(other) and len(at) == 2 and at[1] == at[0] + 1
            and one[at[0]] == other[at[1]] and one[at[1]] == other[at[0]])


def subsets(things):
    return [some for many in range(len(things) + 1) for some in combinations(things, many)]


def pair_is_right(first, second, starts, one, other):
    """Whether the choice of these wishes is right for the starts (point 15)."""
    kept = [Program(first.shape, first.rows, pauses=one), Program(second.shape, second.rows, pauses=other)]
    return all(is_right(kept, start) for start in starts)


def rng(seed):
    return random.Random(seed)
