"""Marks: places of the open programs of a bench, to which one can go back."""

from pauseplaces.errors import NoMark, Stale
from pauseplaces.integers import is_within


def mark(bench):
    """Return the number of a new mark of where the open programs are."""
    bench.marks().append({bench.serial(name): place for name, place in bench.where().items()})
    return len(bench.marks()) - 1


def back_to(bench, number):
    """Bring each program of a mark to its place."""
    if not is_within(number, 0, len(bench.marks()) - 1):
        raise NoMark(number)
    kept = bench.marks()[number]
    names = {bench.serial(name): name for name in bench.where()}
    for serial in kept:
        if serial not in names or kept[serial] not in bench.program(names[serial]).places:
            raise Stale(number)
    for serial in kept:
        _bring(bench, names[serial], kept[serial])


def _bring(bench, name, place):
    """Bring an open program to one of its places."""
    places = bench.program(name).places
    times = places.index(place) - places.index(bench.where()[name])
    if times > 0:
        bench.step(name, times=times)
    else:
        bench.back(name, times=-times)


def fork(bench):
    """Return a new bench that is equal, with equal marks, and goes on by itself."""
    return bench.copy()
