import unittest

from pauseplaces.errors import BadPauses, BadRow, BadShape, BadState, Long, Losing
from pauseplaces.programs import inverse_of, joined_by, log, Program, run, sum_of
from pauseplaces.rows import inverse
from tests.cases import Case
from tests.plain import (
    after_rows, all_states, counting, example_programs, rng, row, row_loses, rows_of,
    some_program, some_state)
from tests.things import ANYTHING, HUGE, NO_TUPLES, nested

SHAPES = [(2,), (4,), (2, 3), (2, 2, 2), (4, 2, 4)]
ADD = row("add", 0, 1)
MANY = 200


def each_program(seed, **more):
    source = rng(seed)
    return [some_program(source, source.choice(SHAPES), 12, **more) for _ in range(MANY)]


class MakingTest(Case):
    def check(self, program, shape, rows, pauses, places):
        found = (program.shape, program.rows, program.pauses, program.places)
        self.assertEqual(found, (shape, rows, pauses, places))
        for part in found:
            self.assertIs(type(part), tuple)
        self.assertEqual(len(program), len(rows))

    def test_ordinary(self):
        rows = (ADD, row("mix", 0, 1, 1, when=((1, 1),)), row("set", 1, 0))
        self.check(Program((2, 2), rows), (2, 2), rows, (), (0, 3))
        self.check(Program((2, 2), rows, pauses=(1,)), (2, 2), rows, (1,), (0, 1, 3))
        self.check(Program((2, 2), rows, pauses=(1, 2)), (2, 2), rows, (1, 2), (0, 1, 2, 3))
        self.check(Program(rows=rows, pauses=(2,), shape=(2, 2)), (2, 2), rows, (2,), (0, 2, 3))

    def test_without_rows(self):
        self.check(Program((2,), ()), (2,), (), (), (0,))
        self.check(Program((2,), (), pauses=()), (2,), (), (), (0,))

    def test_one_row(self):
        self.check(Program((2,), (ADD,)), (2,), (ADD,), (), (0, 1))

    def test_pauses_only_by_name(self):
        with self.assertRaises(TypeError):
            Program((2,), (ADD, ADD), (1,))

    def test_number_of_rows(self):
        self.check(counting(80), (2,), (ADD,) * 80, (), (0, 80))
        for many in (81, 82, 300):
            self.check_raises(Long, Program, (2,), (ADD,) * many)

    def test_number_of_pauses(self):
        pauses = (1, 2, 3, 4, 5, 6, 7, 8)
        self.check(counting(10, pauses), (2,), (ADD,) * 10, pauses, (0,) + pauses + (10,))
        self.check_raises(BadPauses, Program, (2,), (ADD,) * 10, pauses=pauses + (9,))
        self.check_raises(BadPauses, Program, (2,), (ADD,) * 80, pauses=tuple(range(1, 80)))

    def test_bounds_of_pauses(self):
        for many in (0, 1, 2, 3, 80):
            for pause in (-1, 0, 1, many - 1, many, many + 1, HUGE, -HUGE):
                if 1 <= pause <= many - 1:
                    self.assertEqual(counting(many, (pause,)).pauses, (pause,))
                else:
                    self.check_raises(BadPauses, Program, (2,), (ADD,) * many, pauses=(pause,))

    def test_pauses_that_do_not_ascend(self):
        for pauses in [(2, 1), (1, 1), (1, 3, 2), (1, 2, 2), (3, 3, 3), (2, 3, 1)]:
            self.check_raises(BadPauses, Program, (2,), (ADD,) * 5, pauses=pauses)

    def test_any_object_as_pauses(self):
        for thing in ANYTHING:
            if thing not in ((), (1,)):
                self.check_raises(BadPauses, Program, (2,), (ADD,) * 3, pauses=thing)

    def test_bool_pauses(self):
        self.check_raises(BadPauses, Program, (2,), (ADD,) * 3, pauses=(True,))
        self.check_raises(BadPauses, Program, (2,), (ADD,) * 3, pauses=(True, 2))

    def test_any_object_as_a_pause(self):
        for thing in ANYTHING:
            if thing is True or thing not in (1, 2):
                self.check_raises(BadPauses, Program, (2,), (ADD,) * 3, pauses=(thing,))
                self.check_raises(BadPauses, Program, (2,), (ADD,) * 3, pauses=(1, thing))

    def test_any_object_as_shape(self):
        for thing in ANYTHING + [(1,), (65,), (2,) * 7, (8, 9)]:
            self.check_raises(BadShape, Program, thing, ())

    def test_any_object_as_rows(self):
        for thing in NO_TUPLES + [nested(1, 20, list), [ADD], ADD[0][0]]:
            self.check_raises(BadRow, Program, (2,), thing, fields={"index": 0})

    def test_any_object_as_a_row(self):
        for thing in ANYTHING:
            for at in range(3):
                rows = (ADD,) * at + (thing,) + (ADD,) * (2 - at)
                self.check_raises(BadRow, Program, (2, 2), rows, fields={"index": at})

    def test_rows_of_other_shapes(self):
        for wrong in [row("add", 2, 1), row("add", 0, 2), row("add", 0, 1, when=((0, 1),))]:
            self.check_raises(BadRow, Program, (2, 2), (ADD, wrong), fields={"index": 1})

    def test_first_wrong_row(self):
        self.check_raises(BadRow, Program, (2,), (ADD, None, 0, ADD, None), fields={"index": 1})
        rows = (ADD,) * 100 + (None,)
        self.check_raises(BadRow, Program, (2,), rows, fields={"index": 100})

    def test_sequence_of_errors(self):
        rows = (ADD,) * 81 + (None,)
        self.check_raises(BadShape, Program, (1,), rows, pauses=(0,))
        self.check_raises(BadShape, Program, [2], 7, pauses=7)
        self.check_raises(BadRow, Program, (2,), rows, pauses=(0,), fields={"index": 81})
        self.check_raises(BadRow, Program, (2,), list(rows), pauses=(0,), fields={"index": 0})
        self.check_raises(Long, Program, (2,), rows[:81], pauses=(0,))
        self.check_raises(BadPauses, Program, (2,), rows[:80], pauses=(0,))


class ComparingTest(unittest.TestCase):
    def test_equal(self):
        for program in each_program(1, losing=True):
            other = Program(program.shape, program.rows, pauses=program.pauses)
            self.assertIs(program == other, True)
            self.assertIs(program != other, False)

    def test_each_part_counts(self):
        rows = (row("add", 0, 1),) * 3
        program = Program((2, 3), rows, pauses=(1,))
        for other in [Program((2, 2), rows, pauses=(1,)), Program((2, 3), rows, pauses=(2,)),
                      Program((2, 3), rows), Program((2, 3), rows, pauses=(1, 2)),
                      Program((2, 3), rows + rows[:1], pauses=(1,)),
                      Program((2, 3), rows[:2] + (row("add", 1, 1),), pauses=(1,)),
                      Program((2, 3), rows[:2] + (row("add", 0, 1, when=((1, 0),)),), pauses=(1,))]:
            self.assertIs(program == other, False)
            self.assertIs(program != other, True)
            self.assertIs(other == program, False)

    def test_programs_without_rows(self):
        self.assertIs(Program((2,), ()) == Program((2,), ()), True)
        self.assertIs(Program((2,), ()) == Program((3,), ()), False)

    def test_no_other_object_is_equal(self):
        program = counting(2, (1,))
        parts = [(program.shape, program.rows, program.pauses), program.rows, len(program), object()]
        for thing in ANYTHING + parts:
            self.assertIs(program == thing, False)
            self.assertIs(thing == program, False)


class PausesTest(unittest.TestCase):
    def test_places(self):
        program = counting(5, (1, 3))
        self.assertEqual([place in program for place in range(-1, 7)],
                         [False, False, True, False, True, False, False, False])

    def test_any_object(self):
        program = counting(5, (1, 2))
        for thing in ANYTHING:
            expected = type(thing) is int and thing in (1, 2)
            self.assertIs(thing in program, expected, thing)
        self.assertIs(True in program, False)

    def test_without_rows(self):
        for thing in ANYTHING:
            self.assertIs(thing in Program((2,), ()), False)

    def test_bools_anywhere(self):
        self.assertIs(False in counting(2, (1,)), False)
        self.assertIs(True in counting(2, (1,)), False)


class RunningTest(Case):
    def test_each_row(self):
        for program in each_program(2, losing=True):
            for state in all_states(program.shape):
                expected = [after_rows(program.shape, program.rows[:k], state)
                            for k in range(len(program) + 1)]
                self.assertEqual(log(program, state), expected)
                self.assertEqual(run(program, state), expected[-1])

    def test_without_rows(self):
        self.assertEqual(run(Program((2,), ()), (1,)), (1,))
        self.assertEqual(log(Program((2,), ()), (1,)), [(1,)])

    def test_new_lists(self):
        program = counting(2)
        found = log(program, (0,))
        found.append(None)
        self.assertEqual(log(program, (0,)), [(0,), (1,), (0,)])

    def test_by_name(self):
        program = counting(1)
        self.assertEqual(run(state=(0,), program=program), (1,))
        self.assertEqual(log(state=(0,), program=program), [(0,), (1,)])

    def test_any_object_as_state(self):
        for thing in ANYTHING + [(2, 0), (0, 3), (0, 0, 0), (0, True), (0, -1), [0, 0]]:
            if thing != (0, 0):
                for program in (counting(1, shape=(2, 3)), Program((2, 3), ())):
                    self.check_raises(BadState, run, program, thing)
                    self.check_raises(BadState, log, program, thing)

    def test_example(self):
        P = example_programs()[0]
        self.assertEqual([len(P), P.places, log(P, (0, 1))], [2, (0, 1, 2), [(0, 1), (1, 1), (1, 0)]])


class SumTest(Case):
    def check(self, one, other, rows, pauses):
        found = sum_of(one, other)
        self.assertIs(type(found), Program)
        self.assertEqual((found.shape, found.rows, found.pauses), (one.shape, rows, pauses))

    def test_rows_and_joint(self):
        self.check(counting(2, (1,)), counting(3, (2,)), (ADD,) * 5, (1, 2, 4))
        self.check(counting(1), counting(1), (ADD,) * 2, (1,))
        program = Program((2,), (row("set", 0, 0),))
        self.check(program, counting(2, (1,)), program.rows + (ADD, ADD), (1, 2))

    def test_without_rows(self):
        none = Program((2,), ())
        self.check(none, none, (), ())
        self.check(none, counting(3, (1,)), (ADD,) * 3, (1,))
        self.check(counting(3, (1,)), none, (ADD,) * 3, (1,))

    def test_does_both(self):
        source = rng(3)
        for _ in range(MANY):
            shape = source.choice(SHAPES)
            one, other = [some_program(source, shape, 6, losing=True, most_pauses=3) for _ in range(2)]
            state = some_state(source, shape)
            self.assertEqual(run(sum_of(one, other), state), run(other, run(one, state)))

    def test_number_of_rows(self):
        self.check(counting(40), counting(40), (ADD,) * 80, (40,))
        self.check(counting(80), Program((2,), ()), (ADD,) * 80, ())
        self.check_raises(Long, sum_of, counting(40), counting(41))
        self.check_raises(Long, sum_of, counting(80), counting(80))

    def test_number_of_pauses(self):
        four, three = counting(5, (1, 2, 3, 4)), counting(4, (1, 2, 3))
        self.check(four, three, (ADD,) * 9, (1, 2, 3, 4, 5, 6, 7, 8))
        self.check_raises(Long, sum_of, four, four)
        eight = counting(9, range(1, 9))
        self.check(eight, Program((2,), ()), (ADD,) * 9, eight.pauses)
        self.check(Program((2,), ()), eight, (ADD,) * 9, eight.pauses)
        self.check_raises(Long, sum_of, eight, counting(1))
        self.check_raises(Long, sum_of, counting(1), eight)

    def test_two_shapes(self):
        self.check_raises(BadShape, sum_of, counting(1), counting(1, shape=(3,)))
        self.check_raises(BadShape, sum_of, counting(1, shape=(2, 3)), counting(1, shape=(3, 2)))
        self.check_raises(BadShape, sum_of, counting(80), counting(80, shape=(3,)))
        self.check_raises(BadShape, sum_of, Program((2,), ()), Program((3,), ()))

    def test_by_name(self):
        self.assertEqual(sum_of(other=counting(1, shape=(2, 2)), one=example_programs()[0]).pauses, (1, 2))

    def test_the_programs_stay(self):
        one, other = counting(2, (1,)), counting(3, (2,))
        sum_of(one, other)
        self.assertEqual((one, other), (counting(2, (1,)), counting(3, (2,))))


class InverseTest(Case):
    def test_leads_back_both_ways(self):
        for program in each_program(4):
            back = inverse_of(program)
            self.assertEqual(back.rows, tuple(inverse(program.shape, one) for one in program.rows[::-1]))
            for state in all_states(program.shape):
                self.assertEqual(run(back, run(program, state)), state)
                self.assertEqual(run(program, run(back, state)), state)

    def test_pauses(self):
        self.assertEqual(inverse_of(counting(5, (1, 2))).pauses, (3, 4))
        self.assertEqual(inverse_of(counting(5, (4,))).pauses, (1,))
        self.assertEqual(inverse_of(counting(5)).pauses, ())
        self.assertEqual(inverse_of(counting(9, range(1, 9))).pauses, tuple(range(1, 9)))
        for program in each_program(5):
            self.assertEqual(inverse_of(inverse_of(program)), program)

    def test_without_rows(self):
        self.assertEqual(inverse_of(Program((2,), ())), Program((2,), ()))

    def test_losing(self):
        for program in each_program(6, losing=True):
            losing = [k for k, one in enumerate(program.rows) if row_loses(program.shape, one)]
            if losing:
                self.check_raises(Losing, inverse_of, program, fields={"index": losing[0]})
            else:
                self.assertEqual(len(inverse_of(program)), len(program))

    def test_first_row_that_loses(self):
        lost = row("set", 0, 1)
        for at in range(4):
            program = Program((2,), (ADD,) * at + (lost,) + (ADD,) * (3 - at))
            self.check_raises(Losing, inverse_of, program, fields={"index": at})
        self.check_raises(Losing, inverse_of, Program((2,), (ADD, lost, lost)), fields={"index": 1})

    def test_by_name(self):
        self.assertEqual(inverse_of(program=counting(1)), counting(1))

    def test_example(self):
        P, Q = example_programs()
        self.assertEqual([inverse_of(P).rows, sum_of(P, Q).pauses, 1 in P, 2 in P],
                         [(row("add", 1, 1), row("mix", 0, 1, 1)), (1, 2), True, False])


class JoinedByTest(unittest.TestCase):
    def check(self, program):
        found = joined_by(program)
        self.assertIs(type(found), tuple)
        one, other = found
        self.assertIn(one, all_states(program.shape))
        self.assertIn(other, all_states(program.shape))
        self.assertNotEqual(one, other)
        self.assertEqual(run(program, one), run(program, other))

    def test_some_programs(self):
        for program in each_program(7, losing=True) + each_program(8):
            if any(row_loses(program.shape, one) for one in program.rows):
                self.check(program)
            else:
                self.assertIsNone(joined_by(program))

    def test_each_losing_row_in_each_place(self):
        source = rng(9)
        for shape in [(4,), (2, 3), (4, 2)]:
            for lost in [one for one in rows_of(shape, True) if row_loses(shape, one)]:
                rows = tuple(source.choice(rows_of(shape, False)) for _ in range(4))
                for at in (0, 2, 4):
                    self.check(Program(shape, rows[:at] + (lost,) + rows[at:]))

    def test_several_losing_rows(self):
        rows = (row("add", 0, 1, when=((1, 1),)), row("set", 0, 1, when=((1, 2),)), row("scale", 1, 0),
                row("copy", 0, 1))
        self.check(Program((2, 3), rows))
        self.check(Program((2, 3), rows[::-1]))

    def test_none(self):
        self.assertIsNone(joined_by(Program((2,), ())))
        self.assertIsNone(joined_by(counting(80)))

    def test_by_name(self):
        found = joined_by(program=Program((2,), (row("set", 0, 1),)))
        self.assertEqual(sorted(found), [(0,), (1,)])


if __name__ == "__main__":
    unittest.main()
