import copy
import unittest

from pauseplaces.errors import EndsClash, Losing, TooMany
from pauseplaces.largest import largest_pairs, largest_triples, pair_table, triple_table
from pauseplaces.programs import Program, sum_of
from tests.cases import Case
from tests.plain import (
    all_states, blocker, clash_set, counting, example_programs, pair_is_right, patterned, rng, row,
    some_pattern, some_program, subsets)

NONE = Program((2, 2), ())
LOSING = Program((2, 2), (row("add", 0, 1), row("set", 0, 0)))
FINE = counting(1, shape=(2, 2))
START = [(0, 0, 0)]


def ends_of(first, second):
    return len(first.rows), len(second.rows)


def is_right_among(clashing, first, second, one, other):
    ones, others = one + (len(first.rows),), other + (len(second.rows),)
    return not any((a, b) in clashing for a in ones for b in others)


def plain_pairs(first, second, starts):
    """All right pairs to which no wish can be added, by trying all choices."""
    clashing = clash_set(first, second, starts)
    right = [(one, other) for one in subsets(first.pauses) for other in subsets(second.pauses)
             if is_right_among(clashing, first, second, one, other)]
    return sorted(pair for pair in right if not any(contains(more, pair) for more in right if more != pair))


def contains(more, less):
    return all(set(some) <= set(all_of_them) for some, all_of_them in zip(less, more))


def plain_triples(first, second, starts):
    """All largest triples, by trying all choices and all starts."""
    clashing = {start: clash_set(first, second, [start]) for start in starts}
    right = {}
    for one in subsets(first.pauses):
        for other in subsets(second.pauses):
            right[(one, other)] = [start for start in starts if is_right_among(
                clashing[start], first, second, one, other)]
    found = []
    for pair, those in right.items():
        if not any(more != pair and contains(more, pair) and right[more] == those for more in right):
            found.append((tuple(sorted(those)),) + pair)
    return sorted(found), right


def paused(program, source, most_pauses):
    """A program with as many pauses as it can have."""
    inner = list(range(1, len(program)))
    chosen = source.sample(inner, min(len(inner), most_pauses))
    return Program(program.shape, program.rows, pauses=tuple(sorted(chosen)))


def some_pairs_of_programs(seed, many, most_pauses):
    source = rng(seed)
    found = []
    for _ in range(many):
        shape = source.choice([(2, 2), (3, 2), (2, 2, 2), (4, 2, 2)])
        first, second = [paused(some_program(source, shape, 9), source, most_pauses) for _ in range(2)]
        starts = all_states(shape)
        found.append((first, second, source.sample(starts, source.randint(0, 3))))
    return found


class PairsTest(Case):
    def check(self, first, second, starts):
        before = copy.deepcopy((first, second, starts))
        pairs, table = largest_pairs(first, second, starts), pair_table(first, second, starts)
        self.assertEqual((first, second, starts), before)
        self.assertIs(type(pairs), list)
        self.assertEqual(pairs, plain_pairs(first, second, starts))
        self.check_table(first, second, starts, pairs, table)
        return pairs

    def check_table(self, first, second, starts, pairs, table):
        clashing = clash_set(first, second, starts)
        a_end, b_end = ends_of(first, second)
        ones = [wish for wish in first.pauses if (wish, b_end) not in clashing]
        others = [wish for wish in second.pauses if (a_end, wish) not in clashing]
        self.assertIs(type(table), dict)
        self.assertEqual(sorted(table), sorted(subsets(ones)))
        for kept, pair in table.items():
            self.assertIn(pair, pairs)
            with_kept = tuple(b for b in others if all((a, b) not in clashing for a in kept))
            self.assertTrue(contains(pair, (kept, with_kept)), (kept, pair))

    def check_ends_clash(self, first, second, starts, clashing):
        before = copy.deepcopy((first, second, starts))
        for call in (largest_pairs, pair_table):
            with self.assertRaises(EndsClash) as held:
                call(first, second, starts)
            self.assertIn(held.exception.start, clashing)
            self.assertEqual((first, second, starts), before)

    def test_some_programs(self):
        more_than_one = 0
        for first, second, starts in some_pairs_of_programs(60, 600, 4):
            clashing = [start for start in starts
                        if ends_of(first, second) in clash_set(first, second, [start])]
            if clashing:
                self.check_ends_clash(first, second, starts, clashing)
            else:
                more_than_one += len(self.check(first, second, starts)) > 1
        self.assertGreater(more_than_one, 3)

    def test_patterns(self):
        source = rng(61)
        for wishes in [(0, 0), (0, 3), (3, 0), (1, 1), (2, 3), (4, 4), (4, 3)] * 4:
            for ends in (False, True):
                patterns = [some_pattern(source, wishes, ends=ends, chance=0.3) for _ in range(2)]
                first, second = patterned(wishes, patterns)
                self.check(first, second, START)
                self.check(second, first, START)
                self.check(first, second, [(0, 0, 1), (0, 0, 0)])

    def test_as_right_choices(self):
        first, second = patterned((2, 2), [{(0, 1), (1, 0), (1, 2)}])
        right = [(one, other) for one in subsets(first.pauses) for other in subsets(second.pauses)
                 if pair_is_right(first, second, START, one, other)]
        for pair in largest_pairs(first, second, START):
            self.assertIn(pair, right)
            self.assertFalse([more for more in right if more != pair and contains(more, pair)])

    def test_no_wishes_and_no_starts(self):
        self.assertEqual(self.check(FINE, FINE, [(0, 0)]), [((), ())])
        self.assertEqual(self.check(NONE, NONE, [(0, 0)]), [((), ())])
        self.assertEqual(pair_table(NONE, FINE, [(0, 0)]), {(): ((), ())})
        first, second = patterned((3, 2), [{(0, 0), (1, 1), (3, 0), (2, 2)}])
        self.assertEqual(self.check(first, second, []), [(first.pauses, second.pauses)])

    def test_wishes_that_clash_with_an_end(self):
        first, second = patterned((2, 2), [{(0, 2), (2, 1)}])
        self.assertEqual(self.check(first, second, START), [((2,), second.pauses[:1])])
        self.assertEqual(sorted(pair_table(first, second, START)), [(), (2,)])

    def test_wishes_that_clash_one_by_one(self):
        first, second = patterned((8, 8), [{(k, k) for k in range(8)}])
        pairs = largest_pairs(first, second, START)
        self.assertEqual(len(pairs), 256)
        expected = []
        for kept in subsets(range(8)):
            others = [k for k in range(8) if k not in kept]
            expected.append((tuple(first.pauses[k] for k in kept),
                             tuple(second.pauses[k] for k in others)))
        self.assertEqual(pairs, sorted(expected))
        self.assertEqual(pair_table(first, second, START), {pair[0]: pair for pair in expected})

    def test_all_wishes_clash(self):
        first, second = patterned((8, 8), [{(0, 0)}])
        self.assertEqual(largest_pairs(first, second, START), [
            (first.pauses, second.pauses[1:]), (first.pauses[1:], second.pauses)])
        first, second = patterned((4, 4), [{(i, j) for i in range(4) for j in range(4)}])
        self.assertEqual(largest_pairs(first, second, START), [((), second.pauses), (first.pauses, ())])

    def test_errors(self):
        bad = Program((2, 2), (row("add", 1, 1, when=((0, 0),)), row("set", 0, 0)))
        for call in (largest_pairs, pair_table):
            self.check_raises(Losing, call, LOSING, blocker(1), [(0, 0)], fields={"index": 0})
            self.check_raises(Losing, call, FINE, bad, [(0, 0)], fields={"index": 1})
            self.check_raises(Losing, call, bad, bad, [], fields={"index": 0})
            self.check_raises(EndsClash, call, FINE, blocker(1), [(0, 0)], fields={"start": (0, 0)})
        shape = (4, 2)
        first, second = counting(1, shape=shape), blocker(1, shape=shape)
        self.check_ends_clash(first, second, [(1, 0), (2, 0), (3, 1), (1, 1), (0, 1)], [(3, 1), (0, 1)])

    def test_new_objects(self):
        pairs, table = largest_pairs(FINE, FINE, []), pair_table(FINE, FINE, [])
        pairs.clear()
        table.clear()
        self.assertEqual(largest_pairs(FINE, FINE, []), [((), ())])
        self.assertEqual(pair_table(FINE, FINE, []), {(): ((), ())})

    def test_by_name(self):
        self.assertEqual(largest_pairs(starts=[], second=NONE, first=FINE), [((), ())])
        self.assertEqual(pair_table(starts=[], second=NONE, first=FINE), {(): ((), ())})

    def test_example(self):
        P, Q = example_programs()
        self.assertEqual(largest_pairs(sum_of(P, P), Q, [(0, 0)]), [((3,), ())])


class TriplesTest(Case):
    def check(self, first, second, starts):
        before = copy.deepcopy((first, second, starts))
        triples, table = largest_triples(first, second, starts), triple_table(first, second, starts)
        self.assertEqual((first, second, starts), before)
        expected, right = plain_triples(first, second, starts)
        self.assertIs(type(triples), list)
        self.assertEqual(triples, expected)
        self.assertIs(type(table), dict)
        self.assertEqual(sorted(table), sorted(right))
        for pair, (those, one, other) in table.items():
            self.assertIn((those, one, other), triples)
            self.assertTrue(contains((one, other), pair))
            self.assertLessEqual(set(right[pair]), set(those))
        without = ((), first.pauses, second.pauses)
        self.assertEqual(without in triples, right[(first.pauses, second.pauses)] == [])
        return triples

    def test_some_programs(self):
        more_than_one = 0
        for first, second, starts in some_pairs_of_programs(62, 300, 3):
            more_than_one += len(self.check(first, second, starts)) > 1
        self.assertGreater(more_than_one, 20)

    def test_patterns_that_depend_on_the_start(self):
        source = rng(63)
        for wishes in [(0, 0), (1, 2), (3, 2), (3, 3), (4, 4), (0, 8), (6, 2)] * 2:
            many = source.randint(2, 3)
            patterns = [some_pattern(source, wishes, ends=True, chance=0.12) for _ in range(many)]
            first, second = patterned(wishes, patterns)
            starts = [(0, 0, s) for s in range(many)]
            source.shuffle(starts)
            self.check(first, second, starts)

    def test_no_starts(self):
        first, second = patterned((2, 2), [{(0, 0)}])
        self.assertEqual(self.check(first, second, []), [((), first.pauses, second.pauses)])
        self.assertEqual(self.check(FINE, FINE, []), [((), (), ())])

    def test_ends_that_clash(self):
        self.assertEqual(self.check(FINE, blocker(1), [(0, 0)]), [((), (), ())])
        first = counting(3, (1, 2), (2, 2))
        self.assertEqual(self.check(first, blocker(1), [(0, 0)]), [((), (1, 2), ())])

    def test_without_wishes(self):
        states = all_states((2, 2))
        self.assertEqual(self.check(FINE, FINE, states[::-1]), [(tuple(states), (), ())])
        self.assertEqual(self.check(NONE, NONE, states[::-1]), [(tuple(states), (), ())])

    def test_number_of_wishes(self):
        for one, other in [(8, 0), (0, 8), (4, 4), (7, 1)]:
            first, second = patterned((one, other), [set()])
            self.assertEqual(largest_triples(first, second, START), [(((0, 0, 0),), first.pauses, second.pauses)])
            self.assertEqual(len(triple_table(first, second, START)), 256)
        for one, other in [(8, 1), (1, 8), (5, 4), (8, 8)]:
            first, second = patterned((one, other), [set()])
            for call in (largest_triples, triple_table):
                self.check_raises(TooMany, call, first, second, START)

    def test_errors(self):
        nine = [counting(9, range(1, 9), (2, 2)), Program((2, 2), LOSING.rows, pauses=(1,))]
        for call in (largest_triples, triple_table):
            self.check_raises(TooMany, call, nine[0], nine[1], [(0, 0)])
            self.check_raises(Losing, call, LOSING, LOSING, [(0, 0)], fields={"index": 0})
            self.check_raises(Losing, call, FINE, LOSING, [], fields={"index": 1})

    def test_new_objects(self):
        largest_triples(FINE, FINE, []).clear()
        triple_table(FINE, FINE, []).clear()
        self.assertEqual(largest_triples(FINE, FINE, []), [((), (), ())])
        self.assertEqual(triple_table(FINE, FINE, []), {((), ()): ((), (), ())})

    def test_by_name(self):
        self.assertEqual(largest_triples(starts=[], second=NONE, first=FINE), [((), (), ())])
        self.assertEqual(triple_table(starts=[], second=NONE, first=FINE), {((), ()): ((), (), ())})

    def test_example(self):
        M = Program((2, 2), (row("mix", 0, 1, 1),))
        N = Program((2, 2), (row("mix", 1, 0, 1),))
        self.assertEqual(largest_triples(M, N, all_states((2, 2))), [(((0, 0),), (), ())])


if __name__ == "__main__":
    unittest.main()
