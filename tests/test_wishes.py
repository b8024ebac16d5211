import copy
import unittest

from pauseplaces.errors import BadPrices, EndsClash, Losing, NoPause
from pauseplaces.programs import Program, sum_of
from pauseplaces.wishes import fate, least, must_go, numbers
from tests.cases import Case
from tests.plain import (
    all_states, blocker, clash_set, counting, example_programs, pair_is_right, patterned, rng, row,
    some_pattern, some_program, subsets)
from tests.things import ANYTHING, HUGE

NONE = Program((2, 2), ())
LOSING = Program((2, 2), (row("add", 0, 1), row("set", 0, 0)))
FINE = counting(1, shape=(2, 2))
START = [(0, 0, 0)]
# No prices of the programs of pauses (1, 2) and (1,).
NO_PRICES = [thing for thing in ANYTHING if thing is not None] + [
    {}, ({},), ({}, {}, {}), [{}, {}], ({}, None), (None, {}), (None, None), ({}, []), ((), ()), ({}, 0),
    ({0: 1}, {}), ({3: 1}, {}), ({-1: 1}, {}), ({HUGE: 1}, {}), ({}, {2: 1}), ({}, {0: 1}),
    ({True: 1}, {}), ({}, {True: 1}), ({"1": 1}, {}), ({None: 1}, {}), ({(1,): 1}, {}), ({(): 1}, {}),
    ({1: 1, 2: 2, 3: 3}, {1: 1}), ({1: 0}, {}), ({1: 1001}, {}), ({1: -1}, {}), ({1: HUGE}, {}),
    ({1: True}, {}), ({1: False}, {}), ({1: "1"}, {}), ({1: None}, {}), ({1: [1]}, {}), ({1: (1,)}, {}),
    ({1: 1, 2: 0}, {}), ({}, {1: 0}), ({}, {1: 1001}), ({}, {1: True}), ({}, {1: "1"}), ({}, {False: 1}),
]


def price_of(prices, which, wish):
    return 1 if prices is None else prices[which].get(wish, 1)


def cost(prices, gone):
    return sum(price_of(prices, which, wish) for which in (0, 1) for wish in gone[which])


def without(program, gone):
    return tuple(wish for wish in program.pauses if wish not in gone)


def least_choices(first, second, starts, prices):
    """What all least choices give up: all sets of wishes of the first program are tried.

    As each price is greater than 0, the second program gives up just what it has to.
    """
    clashing = clash_set(first, second, starts)
    a_end, b_end = len(first.rows), len(second.rows)
    found = []
    for gone in subsets(first.pauses):
        kept = without(first, gone)
        if not any((a, b_end) in clashing for a in kept):
            others = tuple(b for b in second.pauses
                           if any((a, b) in clashing for a in kept + (a_end,)))
            found.append((gone, others))
    lowest = min(cost(prices, gone) for gone in found)
    return [gone for gone in found if cost(prices, gone) == lowest]


def some_prices(source, first, second):
    kind = source.randrange(4)
    if kind == 0:
        return None
    if kind == 1:
        return {}, {}
    values = [1, 2, 3] if kind == 2 else [1, 1000, 999, 500]
    return tuple({wish: source.choice(values) for wish in program.pauses if source.random() < 0.8}
                 for program in (first, second))


def each_deal(seed, many):
    """Two programs whose ends go, starts and prices."""
    source = rng(seed)
    found = []
    for _ in range(many):
        wishes = (source.randint(0, 5), source.randint(0, 5))
        patterns = [some_pattern(source, wishes, ends=source.random() < 0.5, chance=source.random() / 2)
                    for _ in range(2)]
        programs = patterned(wishes, patterns)
        first, second = programs if source.random() < 0.5 else programs[::-1]
        starts = source.choice([START, [(0, 0, 1)], [(0, 0, 1), (0, 0, 0)], []])
        found.append((first, second, starts, some_prices(source, first, second)))
    for _ in range(many):
        shape = source.choice([(2, 2), (3, 2), (2, 2, 2)])
        first, second = [some_program(source, shape, 8) for _ in range(2)]
        starts = source.sample(all_states(shape), 1)
        if (len(first), len(second)) not in clash_set(first, second, starts):
            found.append((first, second, starts, some_prices(source, first, second)))
    return found


class DealCase(Case):
    def check_errors(self, call, *rest):
        """Losing and EndsClash, in this sequence, whatever else is wrong."""
        bad = Program((2, 2), (row("add", 1, 1, when=((0, 0),)), row("set", 0, 0)))
        self.check_raises(Losing, call, LOSING, bad, [(0, 0)], *rest, fields={"index": 0})
        self.check_raises(Losing, call, FINE, bad, [(0, 0)], *rest, fields={"index": 1})
        self.check_raises(EndsClash, call, FINE, blocker(1), [(0, 0)], *rest, fields={"start": (0, 0)})
        shape = (4, 2)
        with self.assertRaises(EndsClash) as held:
            call(counting(1, shape=shape), blocker(1, shape=shape), [(1, 0), (3, 1), (0, 1), (2, 0)], *rest)
        self.assertIn(held.exception.start, [(3, 1), (0, 1)])

    def check_bad_prices(self, call, *rest):
        first, second = counting(3, (1, 2), (2, 2)), counting(2, (1,), (2, 2))
        for prices in NO_PRICES:
            self.check_raises(BadPrices, call, first, second, [], *rest, prices=prices)
            # The errors that are listed first come first.
            self.check_raises(Losing, call, first, LOSING, [], *rest, prices=prices, fields={"index": 1})
            self.check_raises(EndsClash, call, first, blocker(1), [(0, 0)], *rest, prices=prices,
                              fields={"start": (0, 0)})


class MustGoTest(DealCase):
    def test_against_positions(self):
        for first, second, starts, _ in each_deal(70, 80):
            before = copy.deepcopy((first, second, starts))
            found = must_go(first, second, starts)
            self.assertEqual((first, second, starts), before)
            clashing = clash_set(first, second, starts)
            self.assertEqual(found, (
                tuple(a for a in first.pauses if (a, len(second)) in clashing),
                tuple(b for b in second.pauses if (len(first), b) in clashing)))
            for wishes in found:
                self.assertIs(type(wishes), tuple)

    def test_both(self):
        first, second = patterned((3, 3), [{(0, 3), (2, 3), (3, 1), (1, 0), (2, 2)}])
        self.assertEqual(must_go(first, second, START), ((1, 3), (second.pauses[1],)))
        self.assertEqual(must_go(first, second, []), ((), ()))
        self.assertEqual(must_go(NONE, NONE, [(0, 0)]), ((), ()))

    def test_errors(self):
        self.check_errors(must_go)

    def test_by_name(self):
        self.assertEqual(must_go(starts=[], second=NONE, first=FINE), ((), ()))


class LeastTest(DealCase):
    def check(self, first, second, starts, prices):
        before = copy.deepcopy((first, second, starts, prices))
        found = least(first, second, starts, prices=prices)
        self.assertEqual((first, second, starts, prices), before)
        choices = least_choices(first, second, starts, prices)
        self.assertIn(found, choices)
        for gone in choices:
            self.assertLessEqual(set(found[0]), set(gone[0]))
        self.assertEqual([type(wishes) for wishes in found], [tuple, tuple])
        return len(choices)

    def test_against_all_choices(self):
        several = [self.check(*deal) > 1 for deal in each_deal(71, 250)]
        self.assertGreater(sum(several), 30)

    def test_keeps_a_right_pair(self):
        source = rng(72)
        for _ in range(10):
            patterns = [some_pattern(source, (3, 3), ends=True, chance=0.3)]
            first, second = patterned((3, 3), patterns)
            right = [(one, other) for one in subsets(first.pauses) for other in subsets(second.pauses)
                     if pair_is_right(first, second, START, without(first, one), without(second, other))]
            lowest = min(cost(None, gone) for gone in right)
            found = least(first, second, START)
            self.assertIn(found, right)
            self.assertEqual(cost(None, found), lowest)
            for gone in right:
                if cost(None, gone) == lowest:
                    self.assertLessEqual(set(found[0]), set(gone[0]))

    def test_eight_wishes_of_each(self):
        source = rng(73)
        for chance in (0.1, 0.2, 0.3):
            first, second = patterned((8, 8), [some_pattern(source, (8, 8), chance=chance)])
            for _ in range(5):
                self.check(first, second, START, some_prices(source, first, second))
        first, second = patterned((8, 8), [{(k, k) for k in range(8)}])
        self.assertEqual(self.check(first, second, START, None), 256)
        self.assertEqual(least(first, second, START), ((), second.pauses))
        self.assertEqual(least(second, first, START), ((), first.pauses))
        cheap = ({wish: 999 for wish in first.pauses}, {wish: 1000 for wish in second.pauses})
        self.assertEqual(least(first, second, START, prices=cheap), (first.pauses, ()))

    def test_prices(self):
        first, second = patterned((1, 2), [{(0, 0), (0, 1)}])
        b, c = second.pauses
        for prices, expected in [
                (None, ((1,), ())), (({}, {}), ((1,), ())), (({1: 1}, {b: 1, c: 1}), ((1,), ())),
                (({1: 2}, {}), ((), (b, c))), (({1: 3}, {}), ((), (b, c))), (({1: 1000}, {b: 999}), ((), (b, c))),
                (({1: 1000}, {b: 1000}), ((1,), ())), (({1: 1000}, {b: 998, c: 1}), ((), (b, c))),
                (({1: 3}, {c: 2}), ((), (b, c))), (({1: 3}, {c: 3}), ((1,), ()))]:
            self.assertEqual(least(first, second, START, prices=prices), expected, prices)

    def test_nothing_to_give_up(self):
        self.assertEqual(least(NONE, NONE, [(0, 0)]), ((), ()))
        self.assertEqual(least(NONE, NONE, [(0, 0)], prices=({}, {})), ((), ()))
        first, second = patterned((2, 2), [{(0, 0), (2, 1)}])
        self.assertEqual(least(first, second, []), ((), ()))

    def test_errors(self):
        self.check_errors(least)
        self.check_bad_prices(least)

    def test_prices_by_name_alone(self):
        with self.assertRaises(TypeError):
            least(FINE, FINE, [], None)

    def test_by_name(self):
        self.assertEqual(least(prices=None, starts=[], second=NONE, first=FINE), ((), ()))

    def test_examples(self):
        P, Q = example_programs()
        PP = sum_of(P, P)
        Q = Program((2, 2), Q.rows * 3, pauses=(1, 2))
        self.assertEqual([must_go(PP, Q, [(0, 0)]), least(PP, Q, [(0, 0)])], [((1, 2), ()), ((1, 2), ())])


class NumbersTest(DealCase):
    def check(self, first, second, starts, prices):
        before = copy.deepcopy((first, second, starts, prices))
        found = numbers(first, second, starts, prices=prices)
        self.assertEqual((first, second, starts, prices), before)
        clashing = clash_set(first, second, starts)
        self.assertIs(type(found), dict)
        for pair, number in found.items():
            self.assertIn(pair, clashing)
            self.assertNotEqual(pair, (len(first), len(second)))
            self.assertIs(type(number), int)
            self.assertGreater(number, 0)
        for which, program in enumerate((first, second)):
            for wish in program.pauses:
                self.assertLessEqual(sum(found[pair] for pair in found if pair[which] == wish),
                                     price_of(prices, which, wish))
        gone = least(first, second, starts, prices=prices)
        self.assertEqual(sum(found.values()), cost(prices, gone))
        self.assertIn(gone, least_choices(first, second, starts, prices))
        return found

    def test_some_deals(self):
        self.assertGreater(sum(len(self.check(*deal)) for deal in each_deal(74, 200)), 200)

    def test_eight_wishes_of_each(self):
        source = rng(75)
        for chance in (0.1, 0.2, 0.3, 0.4):
            first, second = patterned((8, 8), [some_pattern(source, (8, 8), chance=chance)])
            for _ in range(4):
                self.check(first, second, START, some_prices(source, first, second))

    def test_the_same_for_equal_arguments(self):
        for first, second, starts, prices in each_deal(76, 60):
            found = numbers(first, second, starts, prices=prices)
            again = copy.deepcopy((first, second, starts, prices))
            if prices is not None:
                again = again[:3] + (tuple(dict(list(given.items())[::-1]) for given in prices),)
            self.assertEqual(numbers(*again[:3], prices=again[3]), found)

    def test_single_clashes(self):
        first, second = patterned((1, 1), [{(0, 0)}])
        pair = (1, second.pauses[0])
        self.assertEqual(numbers(first, second, START), {pair: 1})
        prices = ({1: 7}, {second.pauses[0]: 5})
        self.assertEqual(numbers(first, second, START, prices=prices), {pair: 5})
        first, second = patterned((1, 0), [{(0, 0)}])
        self.assertEqual(numbers(first, second, START, prices=({1: 1000}, {})), {(1, len(second)): 1000})
        self.assertEqual(numbers(first, second, []), {})

    def test_new_dicts(self):
        first, second = patterned((1, 1), [{(0, 0)}])
        numbers(first, second, START).clear()
        self.assertEqual(len(numbers(first, second, START)), 1)

    def test_errors(self):
        self.check_errors(numbers)
        self.check_bad_prices(numbers)

    def test_prices_by_name_alone(self):
        with self.assertRaises(TypeError):
            numbers(FINE, FINE, [], None)

    def test_by_name(self):
        self.assertEqual(numbers(prices=None, starts=[], second=NONE, first=FINE), {})


class FateTest(DealCase):
    def check_chain(self, deal, chain, which, wish):
        first, second, starts, prices = deal
        programs = (first, second)
        clashing = clash_set(first, second, starts)
        found = numbers(first, second, starts, prices=prices)
        self.assertIs(type(chain), list)
        self.assertEqual(chain[-1], (which, wish))
        k, place = chain[0]
        if place != len(programs[k]):
            self.assertIn(place, programs[k].pauses)
            self.assertLess(sum(found[pair] for pair in found if pair[k] == place), price_of(prices, k, place))
        for at in range(1, len(chain)):
            (k, place), (j, other) = chain[at - 1:at + 1]
            self.assertEqual(sorted([k, j]), [0, 1])
            pair = (place, other) if k == 0 else (other, place)
            self.assertIn(pair, clashing)
            if at % 2 == 0:
                self.assertIn(pair, found)

    def check(self, deal, which, wish, choices):
        first, second, starts, prices = deal
        before = copy.deepcopy(deal)
        found = fate(first, second, starts, which, wish, prices=prices)
        self.assertEqual(deal, before)
        self.assertIs(type(found), tuple)
        gives_up = [wish in gone[which] for gone in choices]
        if all(gives_up) or not any(gives_up):
            word, chain = found
            self.assertEqual(word, "always" if all(gives_up) else "never")
            self.check_chain(deal, chain, which, wish)
            # The places at even indexes are never given up, those at odd indexes always.
            self.assertEqual(len(chain) % 2, 0 if all(gives_up) else 1)
        else:
            word, one, other = found
            self.assertEqual(word, "sometimes")
            self.assertIn(one, choices)
            self.assertIn(other, choices)
            self.assertEqual((wish in one[which], wish in other[which]), (True, False))
        return word, len(found[1])

    def check_all(self, deal):
        choices = least_choices(*deal)
        return [self.check(deal, which, wish, choices)
                for which in (0, 1) for wish in deal[which].pauses]

    def test_some_deals(self):
        seen = []
        for deal in each_deal(77, 200):
            seen += self.check_all(deal)
        words = [word for word, _ in seen]
        for word in ("always", "never", "sometimes"):
            self.assertGreater(words.count(word), 50)
        self.assertGreater(max(length for word, length in seen if word == "never"), 4)
        self.assertGreater(max(length for word, length in seen if word == "always"), 3)

    def test_eight_wishes_of_each(self):
        source = rng(78)
        for chance in (0.1, 0.2, 0.3):
            first, second = patterned((8, 8), [some_pattern(source, (8, 8), chance=chance)])
            for _ in range(3):
                self.check_all((first, second, START, some_prices(source, first, second)))

    def test_single_wishes(self):
        first, second = patterned((2, 1), [{(0, 0)}])
        place = second.pauses[0]
        self.assertEqual(fate(first, second, START, 0, 2), ("never", [(0, 2)]))
        self.assertEqual(fate(first, second, START, 0, 1), ("sometimes", ((1,), ()), ((), (place,))))
        self.assertEqual(fate(first, second, START, 1, place), ("sometimes", ((), (place,)), ((1,), ())))
        prices = ({1: 2}, {})
        self.assertEqual(fate(first, second, START, 0, 1, prices=prices), ("never", [(0, 1)]))
        self.assertEqual(fate(first, second, START, 1, place, prices=prices),
                         ("always", [(0, 1), (1, place)]))

    def test_wishes_that_have_to_go(self):
        first, second = patterned((1, 1), [{(0, 1), (1, 0)}])
        self.assertEqual(fate(first, second, START, 0, 1), ("always", [(1, len(second)), (0, 1)]))
        place = second.pauses[0]
        self.assertEqual(fate(first, second, START, 1, place), ("always", [(0, 2), (1, place)]))

    def test_no_wish(self):
        first, second = patterned((2, 1), [{(0, 0)}])
        for which, program in enumerate((first, second)):
            things = ANYTHING + [0, len(program), len(program) + 1, -1, HUGE, 3]
            for thing in things:
                if isinstance(thing, bool) or not isinstance(thing, int) or thing not in program.pauses:
                    self.check_raises(NoPause, fate, first, second, START, which, thing,
                                      fields={"place": thing})
        self.check_raises(NoPause, fate, first, second, START, 1, 2, fields={"place": 2})
        self.check_raises(NoPause, fate, first, second, START, 0, True, fields={"place": True})
        self.check_raises(NoPause, fate, NONE, NONE, [], 0, 0, fields={"place": 0})

    def test_errors(self):
        for which in (0, 1):
            self.check_errors(fate, which, None)
            self.check_bad_prices(fate, which, None)

    def test_new_objects(self):
        first, second = patterned((1, 1), [set()])
        fate(first, second, START, 0, 1)[1].clear()
        self.assertEqual(fate(first, second, START, 0, 1), ("never", [(0, 1)]))

    def test_prices_by_name_alone(self):
        with self.assertRaises(TypeError):
            fate(counting(2, (1,), (2, 2)), FINE, [], 0, 1, None)

    def test_by_name(self):
        program = counting(2, (1,), (2, 2))
        self.assertEqual(fate(prices=None, wish=1, which=0, starts=[], second=FINE, first=program),
                         ("never", [(0, 1)]))

    def test_example(self):
        A, B = counting(2, (1,), (2, 2)), blocker(2, (1,))
        self.assertEqual([least(A, B, [(0, 0)]), fate(A, B, [(0, 0)], 0, 1)[0]], [((), (1,)), "sometimes"])

    def test_three_programs_of_which_each_two_pauses_clash(self):
        rows = [row("mix", 0, 1, 1), row("mix", 1, 0, 1), row("swap", 0, 1)]
        programs = [Program((2, 2), (one, one), pauses=(1,)) for one in rows]
        for k in range(3):
            self.assertEqual(fate(programs[k - 1], programs[k], [(1, 0)], 0, 1)[0], "sometimes")


if __name__ == "__main__":
    unittest.main()
