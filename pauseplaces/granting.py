"""Granting: which pauses of programs on a bench can be kept, and giving them more or fewer."""

from pauseplaces.benches import check_fits, check_room, check_together
from pauseplaces.errors import BadPauses, Clash, HasPause, NoPause, Standing
from pauseplaces.grids import part, prefixes_of
from pauseplaces.integers import is_within
from pauseplaces.programs import MOST_PAUSES, with_pauses
from pauseplaces.starts import clashing_orders


def grants(bench, program):
    """Return the tuple of the wishes that can be granted, and a dict from the others to evidence."""
    check_room(bench)
    check_fits(bench.shape, program)
    names = list(bench.where())
    opened = _open_programs(bench)
    check_together(names + [""], opened + [with_pauses(program, ())], bench.base())
    # What prefixes do does not depend on pauses.
    prefixes = prefixes_of(opened + [program])
    refused = {}
    for wish in program.pauses:
        # All positions without the wish go, so that one that clashes has it.
        programs = opened + [with_pauses(program, (wish,))]
        clash = clashing_orders(programs, prefixes, bench.base())
        if clash is not None:
            refused[wish] = clash
    return tuple([wish for wish in program.pauses if wish not in refused]), refused


def _open_programs(bench):
    return [bench.program(name) for name in bench.where()]


def let_in_with(bench, name, program):
    """Let a program in with all wishes that can be granted, and return these."""
    # On a copy, because with the wishes there may be too many positions.
    bench.copy().let_in(name, with_pauses(program, ()))
    wishes = grants(bench, program)[0]
    bench.let_in(name, with_pauses(program, wishes))
    return wishes


def grant(bench, name, place):
    """Make a place a pause of an open program."""
    program = bench.program(name)
    if place in program:
        raise HasPause(place)
    if not is_within(place, 1, len(program) - 1) or len(program.pauses) >= MOST_PAUSES:
        raise BadPauses()
    pauses = tuple(sorted(program.pauses + (place,)))
    programs = _open_programs(bench)
    programs[list(bench.where()).index(name)] = with_pauses(program, pauses)
    if part(programs, bench.base()) is not None:
        raise Clash(place)
    bench.set_pauses(name, pauses)


def give_up(bench, name, place):
    """Make a pause of an open program none."""
    program = bench.program(name)
    if place not in program:
        raise NoPause(place)
    if bench.where()[name] == place:
        raise Standing(place)
    bench.set_pauses(name, tuple([pause for pause in program.pauses if pause != place]))
