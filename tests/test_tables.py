"""Tables: rows, classes, levels, work and limits (points 50 to 54)."""

import itertools
import unittest
from unittest import mock

from enumeration import programs_of
from leastfit import tables
from leastfit.components import argument_kinds, names, result_kind
from leastfit.errors import InvalidRow, LeastError, TooLarge
from leastfit.meaning import outcomes
from leastfit.tables import Table
from leastfit.tasks import Task

KINDS = ["number", "truth", "text", "list"]
X0, X1 = ("input", 0), ("input", 1)


def constant(value):
    return ("constant", value)


def exactly(thing):
    """What tells a thing from all others, 1 from True too."""
    return repr(thing)


class Model:
    """A table as the points tell it, without any haste: all candidates of a level are made before it is filled."""

    def __init__(self, task, rows):
        self.task = task
        self.rows = rows
        self.levels = []

    def candidates(self):
        """The candidates of the next level in the order of point 52, as tuples (kind, program)."""
        cost = len(self.levels) + 1
        made = []
        if self.task.input_cost() == cost:
            made += [(kind, ("input", index)) for index, kind in enumerate(self.task.kinds())]
        for value, price in self.task.constants():
            if price == cost:
                made.append((self.task.check(constant(value)), constant(value)))
        for name, price in self.task.costs():
            kinds = argument_kinds(name)
            for costs in itertools.product(range(1, cost), repeat=len(kinds)):
                if sum(costs) + price == cost:
                    pools = [self.levels[costs[k] - 1].get(kinds[k], []) for k in range(len(kinds))]
                    for chosen in itertools.product(*pools):
                        made.append((result_kind(name), (name, *[program for program, _ in chosen])))
        return made

    def known(self):
        """By kind and outcomes (written, so that 1 is not True) the program of each class."""
        return {exactly((kind, found)): program for level in self.levels for kind, classes in level.items()
                for program, found in classes}

    def added(self):
        """The new classes of the next level, as a list of tuples (kind, program, outcomes), and when they came."""
        known, new, counts = self.known(), {}, []
        for kind, program in self.candidates():
            found = outcomes(program, self.rows)
            key = exactly((kind, found))
            if key not in known:
                if key not in new or self.task.ranks(program) < self.task.ranks(new[key][1]):
                    new[key] = (kind, program, found)
            counts.append(len(new))
        return list(new.values()), counts

    def grow(self):
        level = {}
        for kind, program, found in sorted(self.added()[0], key=lambda one: self.task.ranks(one[1])):
            level.setdefault(kind, []).append((program, found))
        self.levels.append(level)

    def steps(self):
        return len(self.candidates())

    def count(self):
        return sum(len(classes) for level in self.levels for classes in level.values())


# Tasks with rows, and a level up to which all of their programs can be listed.
SAMPLES = [
    (Task(["number"], "number", [("add", 1), ("neg", 1)], [(1, 1)]), [(2,), (-5,), (0,)], 6),
    # Candidates that come later, in the order of the work, may come first in the order of programs.
    (Task(["number"], "number", [("mul", 1), ("add", 1), ("neg", 1)], [(3, 2), (2, 1), (9, 3), (6, 4)]), [(1,)], 7),
    (Task(["number", "number"], "number", [("sub", 2), ("divide", 1)], [(2, 3)], input_cost=2), [(7, 2), (3, 0)], 10),
    (Task(["list"], "list", [("rest", 1), ("append", 2), ("first", 1)], [(1, 2), ((), 1)]), [((1, 2, 3),), ((),)], 8),
    (Task(["text"], "text", [("concat", 1), ("start", 1), ("length", 1)], [("a", 1), (1, 1)]), [("xy",), ("",)], 6),
    (
        Task(["truth", "number"], "number", [("choose_number", 1), ("less", 1), ("neg", 1), ("negate", 1)], [(0, 1)]),
        [(True, 3), (False, -1)], 7,
    ),
    (Task([], "truth", [("is_even", 1), ("both", 1), ("half", 3)], [(True, 1), (1, 1), (0, 2), (False, 1)]), [()], 7),
    (Task(["number", "number"], "number", [("max", 1), ("min", 1)], []), [], 7),
    (Task(["number"], "number", [("first", 2), ("up_to", 9)], [], input_cost=9), [(3,), (0,)], 29),
    (Task(["list"], "list", [("add_each", 9)], [(5, 9)], input_cost=1), [((1, 2),)], 29),
]


class RowsTest(unittest.TestCase):

    def setUp(self):
        self.task = Task(["number", "truth", "text", "list"], "number", [("neg", 1)], [])
        self.row = (1, True, "a", (1, 2))

    def refuse(self, rows, index, task=None):
        with self.subTest(rows=rows):
            with self.assertRaises(InvalidRow) as caught:
                Table(task or self.task, rows)
            self.assertEqual(caught.exception.index, index)

    def test_numbers_of_rows(self):
        for many in (0, 1, 2, 39, 40):
            rows = [self.row] * many
            self.assertEqual(Table(self.task, rows).rows(), rows)
        for many in (41, 42, 100):
            self.refuse([self.row] * many, 40)

    def test_a_wrong_row_before_the_forty_first(self):
        for index in (0, 1, 20, 39):
            for many in (index + 1, 40, 41, 50):
                rows = [self.row] * max(many, index + 1)
                rows[index] = ()
                self.refuse(rows, index)
        self.refuse([self.row] * 40 + [()], 40)
        self.refuse([self.row] * 41 + [()], 40)

    def test_the_first_wrong_row(self):
        self.refuse([self.row, (), (1,)], 1)
        self.refuse([(), self.row, ()], 0)

    def test_rows_of_another_length(self):
        for row in ((), (1,), self.row[:3], self.row[1:], (*self.row, 1), (*self.row, None), self.row * 2):
            self.refuse([row], 0)
            self.refuse([self.row, row, self.row], 1)
        none = Task([], "number", [("neg", 1)], [])
        self.assertEqual(Table(none, [(), ()]).rows(), [(), ()])
        self.refuse([(), (1,)], 1, none)

    def test_values_of_another_kind(self):
        for place, others in enumerate((
            (True, False, "1", (1,), None, 1000001, -1000001), (1, 0, "true", (True,), None),
            (1, True, ("a",), None, "A", "a" * 31), (1, True, "1", None, (True,), (None,), (1000001,), (1,) * 13, [1]),
        )):
            for value in others:
                row = list(self.row)
                row[place] = value
                self.refuse([tuple(row)], 0)
                self.refuse([self.row, self.row, tuple(row)], 2)

    def test_rows_are_copied(self):
        rows = [self.row]
        table = Table(self.task, rows)
        rows.append(())
        rows[0] = None
        self.assertEqual(table.rows(), [self.row])
        table.rows().clear()
        self.assertEqual(table.rows(), [self.row])
        self.assertIsNot(table.rows(), table.rows())
        table.grow()
        self.assertEqual(table.classes("number", 1), [(X0, (1,))])

    def test_rows_are_not_modified(self):
        rows = [self.row] * 41
        self.assertRaises(InvalidRow, Table, self.task, rows)
        self.assertEqual(rows, [self.row] * 41)
        del rows[40]
        Table(self.task, rows).grow()
        self.assertEqual(rows, [self.row] * 40)

    def test_task(self):
        self.assertIs(Table(self.task, []).task(), self.task)

    def test_error(self):
        self.assertTrue(issubclass(InvalidRow, LeastError))


class ClassesTest(unittest.TestCase):

    def test_at_first(self):
        table = Table(SAMPLES[0][0], SAMPLES[0][1])
        self.assertEqual(table.level(), 0)
        self.assertEqual(table.count(), 0)
        for kind in KINDS:
            for cost in (0, 1, 2, 30, 31):
                self.assertEqual(table.classes(kind, cost), [])
        self.assertIsNone(table.find("number", (2, -5, 0)))

    def test_classes_are_those_of_all_programs(self):
        for task, rows, most in SAMPLES:
            table = Table(task, rows)
            seen = {}
            for cost in range(1, most + 1):
                self.assertEqual(table.grow(), cost)
                expected = {kind: [] for kind in KINDS}
                for kind, program in sorted(programs_of(task, cost), key=lambda one: task.ranks(one[1])):
                    found = outcomes(program, rows)
                    if exactly((kind, found)) not in seen:
                        seen[exactly((kind, found))] = (kind, found, cost, program)
                        expected[kind].append((program, found))
                for kind in KINDS:
                    self.assertEqual(exactly(table.classes(kind, cost)), exactly(expected[kind]))
                self.assertEqual(table.level(), cost)
                self.assertEqual(table.count(), len(seen))
            for kind, found, cost, program in seen.values():
                self.assertEqual(exactly(table.find(kind, found)), exactly((cost, program)))

    def test_tables_of_more_levels(self):
        for task, rows, most in SAMPLES:
            table, model = Table(task, rows), Model(task, rows)
            while table.level() < most + 3 and table.level() < 30 and table.count() < 150:
                cost = table.grow()
                model.grow()
                for kind in KINDS:
                    self.assertEqual(exactly(table.classes(kind, cost)), exactly(model.levels[-1].get(kind, [])))
            self.assertEqual(table.count(), model.count())

    def test_every_component(self):
        values = {"number": 2, "truth": True, "text": "ab", "list": (3, 1)}
        kinds = list(values)
        rows = [(2, True, "ab", (3, 1)), (-1, False, "", ()), (5, True, "1", (7,))]
        for name in names():
            task = Task(kinds, "number", [(name, 1)], [])
            table, model = Table(task, rows), Model(task, rows)
            for cost in (1, 2, 3, 4):
                table.grow()
                model.grow()
                for kind in KINDS:
                    self.assertEqual(exactly(table.classes(kind, cost)), exactly(model.levels[-1].get(kind, [])))

    def test_first_of_the_programs_that_are_alike(self):
        task = Task(["number", "number"], "number", [("add", 1), ("sub", 1)], [(0, 1)])
        table = Table(task, [(3, 4), (5, 5)])
        table.grow()
        self.assertEqual(table.classes("number", 1), [(X0, (3, 5)), (X1, (4, 5)), (constant(0), (0, 0))])
        table.grow()
        self.assertEqual(table.classes("number", 2), [])
        table.grow()
        self.assertEqual(table.classes("number", 3), [
            (("add", X0, X0), (6, 10)), (("add", X0, X1), (7, 10)), (("add", X1, X1), (8, 10)),
            (("sub", X0, X1), (-1, 0)), (("sub", X1, X0), (1, 0)), (("sub", constant(0), X0), (-3, -5)),
            (("sub", constant(0), X1), (-4, -5)),
        ])
        self.assertEqual(table.find("number", (7, 10)), (3, ("add", X0, X1)))
        self.assertEqual(table.find("number", (3, 5)), (1, X0))
        self.assertIsNone(table.find("number", (3, 4)))

    def test_a_later_candidate_may_become_the_representative(self):
        # With the argument costs 1 and 3 comes (add 2 (neg x1)), and then, with 2 and 2, (add x0 x0).
        task = Task(["number", "number"], "number", [("add", 1), ("neg", 1)], [(8, 1), (9, 1)], input_cost=2)
        table = Table(task, [(5, -2)])
        while table.level() < 5:
            table.grow()
        self.assertEqual(table.classes("number", 5)[0], (("add", X0, X0), (10,)))
        self.assertEqual(table.find("number", (10,)), (5, ("add", X0, X0)))
        self.assertEqual(outcomes(("add", constant(8), ("neg", X1)), [(5, -2)]), (10,))
        self.assertEqual(task.cost(("add", constant(8), ("neg", X1))), 5)

    def test_without_rows(self):
        constants = [("a", 2), ("b", 2)]
        task = Task(["number", "list", "number"], "number", [("sum", 1), ("less", 3), ("up_to", 1)], constants)
        table = Table(task, [])
        while table.level() < 10:
            table.grow()
        self.assertEqual(table.count(), 4)
        self.assertEqual(table.classes("number", 1), [(X0, ())])
        self.assertEqual(table.classes("list", 1), [(X1, ())])
        self.assertEqual(table.classes("text", 2), [(constant("a"), ())])
        self.assertEqual(table.classes("truth", 5), [(("less", X0, X0), ())])
        self.assertEqual(table.find("truth", ()), (5, ("less", X0, X0)))

    def test_undefined_outcomes_are_classes_too(self):
        task = Task(["list"], "number", [("first", 1)], [])
        table = Table(task, [((),), ((4,),)])
        table.grow()
        table.grow()
        self.assertEqual(table.classes("number", 2), [(("first", X0), (None, 4))])
        self.assertEqual(table.find("number", (None, 4)), (2, ("first", X0)))

    def test_kinds_are_kept_apart(self):
        task = Task([], "number", [("neg", 1)], [(True, 1), (1, 1), (0, 1), (False, 1), ("", 1), ((), 1)])
        table = Table(task, [()])
        table.grow()
        self.assertEqual(table.count(), 6)
        self.assertEqual(exactly(table.find("number", (1,))), exactly((1, constant(1))))
        self.assertEqual(exactly(table.find("truth", (True,))), exactly((1, constant(True))))
        self.assertEqual(exactly(table.classes("truth", 1)), exactly([
            (constant(True), (True,)), (constant(False), (False,)),
        ]))
        self.assertEqual(table.find("text", ("",)), (1, constant("")))
        self.assertEqual(table.find("list", ((),)), (1, constant(())))

    def test_find_does_not_take_one_for_true(self):
        task = Task([], "number", [("neg", 1)], [(True, 1), (1, 1), (0, 1), (False, 1), ((1, 0), 1)])
        table = Table(task, [()])
        table.grow()
        for kind, wanted in (
            ("number", (True,)), ("number", (False,)), ("truth", (1,)), ("truth", (0,)), ("list", ((True, 0),)),
            ("list", ((1, False),)), ("text", (1,)), ("number", ((1, 0),)),
        ):
            self.assertIsNone(table.find(kind, wanted))

    def test_find_what_is_not_there(self):
        table = Table(SAMPLES[0][0], SAMPLES[0][1])
        table.grow()
        for wanted in ((), (2,), (2, -5), (2, -5, 0, 0), (2, -5, None), (None, None, None), (-5, 2, 0)):
            self.assertIsNone(table.find("number", wanted))
        for kind in ("truth", "text", "list"):
            self.assertIsNone(table.find(kind, (None, None, None)))

    def test_costs_without_a_level(self):
        table = Table(SAMPLES[0][0], SAMPLES[0][1])
        table.grow()
        table.grow()
        self.assertNotEqual(table.classes("number", 2), [])
        for cost in (-30, -2, -1, 0, 3, 4, 30, 31, 100):
            self.assertEqual(table.classes("number", cost), [])

    def test_lists_that_are_returned_are_new(self):
        table = Table(SAMPLES[0][0], SAMPLES[0][1])
        table.grow()
        before = table.classes("number", 1)
        self.assertEqual(len(before), 2)
        table.classes("number", 1).clear()
        self.assertEqual(table.classes("number", 1), before)
        table.grow()
        self.assertNotEqual(table.classes("number", 2), [])

    def test_tables_do_not_share_anything(self):
        task = SAMPLES[0][0]
        first, second = Table(task, [(1,)]), Table(task, [(2,)])
        first.grow()
        first.grow()
        self.assertEqual(second.level(), 0)
        self.assertEqual(second.count(), 0)
        second.grow()
        self.assertEqual(second.find("number", (2,)), (1, X0))
        self.assertEqual(first.find("number", (1,)), (1, X0))
        self.assertIsNone(second.find("number", (-2,)))


class WorkTest(unittest.TestCase):

    def shown(self, table):
        """All that a table shows."""
        classes = [table.classes(kind, cost) for kind in KINDS for cost in range(1, 31)]
        return exactly((table.level(), table.count(), table.rows(), classes))

    def grown(self, task, rows, level):
        table = Table(task, rows)
        while table.level() < level:
            table.grow()
        return table

    def each_level(self):
        """Tasks with rows, a level, and the steps of the next level."""
        for task, rows, most in SAMPLES:
            model = Model(task, rows)
            for level in range(min(most, 7)):
                yield task, rows, level, model.steps()
                model.grow()

    def test_exactly_the_steps_of_a_level(self):
        for task, rows, level, steps in self.each_level():
            table = self.grown(task, rows, level)
            self.assertIs(table.work(steps), True)
            self.assertEqual(self.shown(table), self.shown(self.grown(task, rows, level + 1)))

    def test_one_step_less(self):
        for task, rows, level, steps in self.each_level():
            table = self.grown(task, rows, level)
            if steps > 0:
                self.assertIs(table.work(steps - 1), False)
                self.assertEqual(self.shown(table), self.shown(self.grown(task, rows, level)))
                self.assertIs(table.work(0), False)
                self.assertIs(table.work(1), True)
                self.assertEqual(self.shown(table), self.shown(self.grown(task, rows, level + 1)))

    def test_more_steps_do_not_begin_the_next_level(self):
        for task, rows, level, steps in self.each_level():
            for more in (1, 2, 1000, 10 ** 30):
                table = self.grown(task, rows, level)
                self.assertIs(table.work(steps + more), True)
                self.assertEqual(self.shown(table), self.shown(self.grown(task, rows, level + 1)))
                model = Model(task, rows)
                while len(model.levels) < level + 1:
                    model.grow()
                if model.steps() > 0:
                    self.assertIs(table.work(model.steps() - 1), False)

    def test_no_steps(self):
        for task, rows, level, steps in self.each_level():
            table = self.grown(task, rows, level)
            self.assertIs(table.work(0), steps == 0)
            self.assertEqual(table.level(), level + (steps == 0))

    def test_step_by_step(self):
        for task, rows, level, steps in self.each_level():
            table = self.grown(task, rows, level)
            before = self.shown(table)
            for _ in range(steps - 1):
                self.assertIs(table.work(1), False)
                self.assertEqual(self.shown(table), before)
            self.assertIs(table.work(1), True)
            self.assertEqual(self.shown(table), self.shown(self.grown(task, rows, level + 1)))

    def test_at_once_and_in_parts(self):
        for task, rows, most in SAMPLES:
            expected = self.shown(self.grown(task, rows, min(most, 7)))
            for fuel in (1, 2, 3, 7, 50):
                table = Table(task, rows)
                while table.level() < min(most, 7):
                    table.work(fuel)
                self.assertEqual(self.shown(table), expected)

    def test_grow_after_a_part_of_the_work(self):
        for task, rows, level, steps in self.each_level():
            for fuel in (0, 1, steps // 2, steps - 1):
                if 0 <= fuel < steps:
                    table = self.grown(task, rows, level)
                    self.assertIs(table.work(fuel), False)
                    self.assertEqual(table.grow(), level + 1)
                    self.assertEqual(self.shown(table), self.shown(self.grown(task, rows, level + 1)))

    def test_what_a_level_that_is_not_finished_does_not_show(self):
        task = Task(["number"], "number", [("neg", 1), ("add", 1)], [(1, 1)])
        table = Table(task, [(5,)])
        self.assertIs(table.work(1), False)
        self.assertEqual((table.level(), table.count(), table.classes("number", 1)), (0, 0, []))
        self.assertIsNone(table.find("number", (5,)))
        self.assertIs(table.work(1), True)
        self.assertEqual((table.level(), table.count()), (1, 2))
        self.assertEqual(table.find("number", (5,)), (1, X0))
        self.assertIs(table.work(1), False)
        self.assertEqual((table.level(), table.count(), table.classes("number", 2)), (1, 2, []))
        self.assertIsNone(table.find("number", (-5,)))
        self.assertEqual(table.find("number", (5,)), (1, X0))
        self.assertIs(table.work(1), True)
        self.assertEqual(table.find("number", (-5,)), (2, ("neg", X0)))

    def test_levels_without_candidates(self):
        task = Task(["number"], "number", [("neg", 3)], [(1, 9)], input_cost=4)
        table = Table(task, [(5,)])
        finished = []
        for level in range(1, 11):
            finished.append(table.work(0))
            if not finished[-1]:
                self.assertEqual(table.level(), level - 1)
                self.assertIs(table.work(1), True)
            self.assertEqual(table.level(), level)
        # The candidates are x0, (neg x0), the constant 1, and (neg (neg x0)), which is no new class.
        self.assertEqual([k + 1 for k in range(10) if not finished[k]], [4, 7, 9, 10])

    def test_calls_of_a_class_that_is_not_new_are_no_candidates(self):
        task = Task(["number"], "number", [("neg", 1)], [])
        table = Table(task, [(5,)])
        self.assertEqual([table.work(0), table.work(1), table.work(0), table.work(1)], [False, True, False, True])
        # (neg (neg x0)) is a candidate, but of no new class, so that nothing is left for level 4.
        self.assertEqual([table.work(0), table.work(1)], [False, True])
        self.assertEqual(table.classes("number", 3), [])
        self.assertIs(table.work(0), True)
        self.assertEqual(table.level(), 4)

    def test_steps_of_three_arguments(self):
        task = Task(["truth", "number"], "number", [("choose_number", 1)], [(1, 1), (2, 2)])
        table = Table(task, [(True, 7)])
        table.grow()
        table.grow()
        self.assertIs(table.work(0), True)
        # A truth of cost 1 and two numbers of cost 1.
        self.assertIs(table.work(3), False)
        self.assertIs(table.work(1), True)
        # A number of cost 2 and one of cost 1, in both orders.
        self.assertIs(table.work(3), False)
        self.assertIs(table.work(1), True)
        self.assertIs(table.work(0), False)
        self.assertIs(table.work(1), True)


class LimitsTest(unittest.TestCase):

    def refuse(self, limit, call, *arguments):
        with self.assertRaises(TooLarge) as caught:
            call(*arguments)
        self.assertEqual(caught.exception.limit, limit)

    def shown(self, table):
        classes = [table.classes(kind, cost) for kind in KINDS for cost in range(1, 32)]
        return exactly((table.level(), table.count(), table.rows(), classes))

    def test_thirty_levels(self):
        for task, row in (
            (Task(["truth", "truth"], "truth", [("both", 1), ("negate", 1), ("either", 2)], []), (True, False)),
            (Task(["number"], "number", [("half", 1), ("max", 1)], [(3, 1)]), (1000,)),
            (Task(["number"], "number", [("add", 9)], [(1, 9)], input_cost=9), (5,)),
            (Task([], "text", [("concat", 1)], [("ab", 1)]), ()),
        ):
            table, model = Table(task, [row]), Model(task, [row])
            for level in range(1, 31):
                if level % 2:
                    self.assertEqual(table.grow(), level)
                else:
                    while not table.work(7):
                        pass
                self.assertEqual(table.level(), level)
                model.grow()
            for cost in range(1, 31):
                for kind in KINDS:
                    self.assertEqual(table.classes(kind, cost), model.levels[cost - 1].get(kind, []))
            before = self.shown(table)
            for fuel in (0, 1, 1000, 10 ** 30):
                self.refuse("levels", table.work, fuel)
                self.refuse("levels", table.grow)
                self.assertEqual(self.shown(table), before)
            self.assertEqual(table.classes("number", 31), [])

    def test_a_class_of_level_thirty(self):
        task = Task(["number"], "number", [("neg", 3), ("add", 3)], [], input_cost=3)
        table = Table(task, [(5,)])
        while table.level() < 29:
            table.grow()
        self.assertEqual(table.grow(), 30)
        self.assertNotEqual(table.classes("number", 30), [])
        for program, found in table.classes("number", 30):
            self.assertEqual(task.cost(program), 30)
            self.assertEqual(table.find("number", found), (30, program))

    def test_too_many_classes(self):
        for task, rows, most in SAMPLES:
            model = Model(task, rows)
            for level in range(min(most, 6)):
                new, counts = model.added()
                before = model.count()
                for limit in range(before, before + len(new)):
                    # The step that would add one class too many.
                    last = [limit < before + count for count in counts].index(True)
                    self.check_too_many(model, limit, last)
                with mock.patch.object(tables, "MOST_CLASSES", before + len(new)):
                    table = self.grown(task, rows, level)
                    self.assertEqual(table.grow(), level + 1)
                    self.assertEqual(table.count(), before + len(new))
                model.grow()

    def grown(self, task, rows, level):
        table = Table(task, rows)
        while table.level() < level:
            table.grow()
        return table

    def check_too_many(self, model, limit, last):
        with mock.patch.object(tables, "MOST_CLASSES", limit):
            table = self.grown(model.task, model.rows, len(model.levels))
            before = self.shown(table)
            self.refuse("classes", table.grow)
            self.assertEqual(self.shown(table), before)
            # The level begins anew, so that the same step is refused.
            self.assertIs(table.work(last), False)
            self.assertEqual(self.shown(table), before)
            self.refuse("classes", table.work, 1)
            self.assertEqual(self.shown(table), before)
            self.refuse("classes", table.work, last + 1)
            self.assertIs(table.work(last), False)
            self.assertIs(table.work(0), False)
            self.refuse("classes", table.grow)
            self.assertEqual(self.shown(table), before)
        self.assertEqual(table.grow(), len(model.levels) + 1)
        self.assertEqual(self.shown(table), self.shown(self.grown(model.task, model.rows, len(model.levels) + 1)))

    def test_twenty_thousand_classes(self):
        # Each other level has all lists of one number more, each number one of six.
        task = Task(["list"], "list", [("append", 1)], [(number, 1) for number in range(6)])
        table = Table(task, [((),)])
        total = 7
        self.assertEqual(table.grow(), 1)
        for many in range(1, 6):
            self.assertEqual(table.grow(), 2 * many)
            self.assertEqual(table.grow(), 2 * many + 1)
            self.assertEqual(len(table.classes("list", 2 * many + 1)), 6 ** many)
            total += 6 ** many
            self.assertEqual(table.count(), total)
        self.assertIs(table.work(0), True)
        before = self.shown(table)
        self.refuse("classes", table.grow)
        self.assertEqual(self.shown(table), before)
        for _ in range(2):
            self.assertIs(table.work(20000 - total), False)
            self.assertIs(table.work(0), False)
            self.refuse("classes", table.work, 1)
            self.assertEqual(self.shown(table), before)
        self.refuse("classes", table.work, 20001 - total)
        self.assertIs(table.work(5000), False)
        self.refuse("classes", table.grow)
        self.assertEqual(self.shown(table), before)

    def test_error(self):
        self.assertTrue(issubclass(TooLarge, LeastError))


if __name__ == "__main__":
    unittest.main()
