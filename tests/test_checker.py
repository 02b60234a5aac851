"""Closed tables, and certificates that are accepted (points 66, 67 and 69 to 71)."""

import random
import unittest

from enumeration import programs_of
from leastfit.certificates import clue_rows, example_clues, make_table
from leastfit.checker import accepts, is_closed
from leastfit.goals import Goal
from leastfit.meaning import outcomes
from leastfit.search import Search
from leastfit.tables import Table
from leastfit.tasks import Task
from samples import (
    CONSTANTS, GOALS, KINDS, NUMBERS, ORDER, PAIRS, all_lines, comes_before, exactly, fits, fits_clue, goal_of,
    in_order, is_closed_table, least_fitting,
)

X0, X1 = ("input", 0), ("input", 1)
ONE = ("constant", 1)

# Tables: a task, rows and a cost up to which all programs can be listed.
TABLES = [(goal.task(), clue_rows(example_clues(goal) + [("asked", row) for row in goal.rows()]), most - 2)
          for goal, most in GOALS]
TABLES += [(goal.task(), [], most - 3) for goal, most in GOALS[::4]]


def copied(lines):
    return {kind: list(lines[kind]) for kind in lines}


def searched(goal, cost):
    search = Search(goal, cost)
    search.run(10 ** 6)
    return search.answer()


CERTIFICATES = [(goal, most, searched(goal, most)) for goal, most in GOALS]
NESTED = ()
for _ in range(38):
    NESTED = (NESTED,)
DEEP = []
for _ in range(30000):
    DEEP = [DEEP]

# What is no dict of lists of lines, program, line and so on.
ANYTHING = [
    None, True, False, 0, 1, -1, 31, 10 ** 40, "", "none", "least", "number", (), [], {}, (None,), [None], ((), ()),
    ({}, []), [[]], [()], {"number": []}, {1: 2}, {(): None}, NESTED, (NESTED, NESTED), DEEP, [DEEP, DEEP],
    {"number": DEEP},
    ("none",), ("open",), ("least", X0), ("none", 3, [], {}), X0, ("constant", DEEP), ("input", DEEP), ("neg", DEEP),
    (DEEP, ()), ((DEEP,), (DEEP,)), ("add", NESTED, NESTED),
]


def spoilt(task, rows, lines, chance):
    """The dict of lines with one or two places changed."""
    lines = copied(lines)
    for _ in range(chance.randrange(1, 3)):
        kind = chance.choice([kind for kind in KINDS if lines[kind]] or KINDS)
        here = lines[kind]
        index = chance.randrange(len(here)) if here else 0
        change = chance.randrange(6)
        if change == 0:
            del here[index:index + 1]
        elif change == 1 and here:
            here.insert(chance.randrange(len(here) + 1), here[index])
        elif change == 2 and len(here) > 1:
            other = chance.randrange(len(here))
            here[index], here[other] = here[other], here[index]
        elif change == 3:
            its_kind, program = chance.choice(programs_of(task, chance.randrange(1, 6)) or [("number", X0)])
            lines[its_kind].insert(chance.randrange(len(lines[its_kind]) + 1), (program, outcomes(program, rows)))
        elif change == 4 and here:
            alike = [program for cost in range(1, 6) for program in in_order(task, cost, kind)
                     if outcomes(program, rows) == here[index][1]]
            here[index] = (chance.choice(alike or [here[index][0]]), here[index][1])
        elif change == 5 and here and rows:
            told = list(here[index][1])
            told[chance.randrange(len(told))] = chance.choice([None, 0, 1, True, False, "", (), (1,)])
            here[index] = (here[index][0], tuple(told))
    return lines


class ClosedTest(unittest.TestCase):

    def test_tables(self):
        for task, rows, most in TABLES:
            table = Table(task, rows[:40])
            for cost in range(most + 1):
                lines = make_table(table, cost)
                self.assertIs(is_closed(task, rows[:40], cost, lines), True)
                self.assertTrue(is_closed_table(task, rows[:40], cost, lines))
                self.assertEqual(exactly(lines), exactly(all_lines(task, rows[:40], cost)))
                table.grow()

    def test_first_of_all_programs(self):
        # Point 67, and why no other table than that of the first programs is closed.
        for task, rows, most in TABLES:
            lines = all_lines(task, rows, most)
            for cost in range(1, most + 1):
                for kind, program in programs_of(task, cost):
                    found = [line for line in lines[kind] if exactly(line[1]) == exactly(outcomes(program, rows))]
                    self.assertEqual(len(found), 1)
                    self.assertFalse(comes_before(task, program, found[0][0]))

    def test_another_cost(self):
        for task, rows, most in TABLES:
            for told in range(most + 1):
                lines = all_lines(task, rows, told)
                for cost in range(most + 1):
                    expected = exactly(lines) == exactly(all_lines(task, rows, cost))
                    self.assertIs(is_closed(task, rows, cost, lines), expected, (told, cost))

    def test_other_rows(self):
        lines = all_lines(NUMBERS, [(5,), (2,)], 4)
        self.assertIs(is_closed(NUMBERS, [(5,), (2,)], 4, lines), True)
        for rows in ([(2,), (5,)], [(5,)], [(5,), (2,), (2,)], [(5,), (3,)], []):
            self.assertIs(is_closed(NUMBERS, rows, 4, lines), False)
        self.assertIs(is_closed(PAIRS, [(5, 2)], 4, lines), False)

    def test_spoilt_tables(self):
        chance = random.Random(1)
        closed = 0
        for task, rows, most in TABLES:
            cost = min(most, 4)
            lines = all_lines(task, rows, cost)
            for _ in range(120):
                changed = spoilt(task, rows, lines, chance)
                expected = exactly(changed) == exactly(lines)
                self.assertIs(is_closed_table(task, rows, cost, changed), expected)
                self.assertIs(is_closed(task, rows, cost, changed), expected)
                closed += expected
        self.assertGreater(closed, 10)

    def test_each_line_is_needed(self):
        for task, rows, most in TABLES:
            lines = all_lines(task, rows, most)
            for kind in KINDS:
                for index in range(min(len(lines[kind]), 20)):
                    fewer = copied(lines)
                    del fewer[kind][index]
                    self.assertIs(is_closed(task, rows, most, fewer), False)

    def refuse(self, line, kind="number", index=None, task=NUMBERS, rows=((5,), (2,)), cost=3):
        """A closed table is no longer closed with this line in place of the one at the index, or as a new one."""
        lines = all_lines(task, list(rows), cost)
        self.assertIs(is_closed(task, list(rows), cost, lines), True)
        if index is None:
            for place in range(len(lines[kind]) + 1):
                more = copied(lines)
                more[kind].insert(place, line)
                self.assertIs(is_closed(task, list(rows), cost, more), False)
        else:
            lines[kind][index] = line
            self.assertIs(is_closed(task, list(rows), cost, lines), False)

    def test_rule_1_parts_of_the_task(self):
        for program in (
            ("constant", 7), ("sub", X0, X0), ("add", X0, ("constant", 2)), ("neg", ("half", X0)), X1, ("input", 2),
            ("input", -1), ("input", True), ("neg", X0, X0), ("add", X0), ("neg", ("constant", True)), (),
            ("add", ("constant", True), X0), ("constant", True), ("neg",), ("wish", X0), ("neg", [X0]), ["neg", X0],
        ):
            self.refuse((program, (7, 7)))
            self.refuse((program, (0, 0)))
            for kind in ("truth", "text", "list"):
                self.refuse((program, (None, None)), kind)
        lines = all_lines(NUMBERS, [(5,), (2,)], 3)
        self.assertEqual(lines["number"][1], (ONE, (1, 1)))
        self.refuse((("constant", True), (1, 1)), index=1)
        self.refuse((("constant", True), (True, True)), index=1)

    def test_rule_1_cost(self):
        rows = [(5,), (2,)]
        for cost in (1, 2, 3, 4):
            lines = all_lines(NUMBERS, rows, cost)
            for program in in_order(NUMBERS, cost + 1, "number"):
                more = copied(lines)
                more["number"].append((program, outcomes(program, rows)))
                self.assertIs(is_closed(NUMBERS, rows, cost, more), False)

    def test_rule_1_outcomes(self):
        rows = [(5,), (2,)]
        lines = all_lines(NUMBERS, rows, 3)
        for index, (program, told) in enumerate(lines["number"]):
            for wrong in (
                told[:1], told + told, told + (None,), (), list(told), None, told[0], (None, told[1]), (told[0], None),
                (told[0], told[1] + 1), told[::-1] if told[0] != told[1] else (0, 0), (True, False), (told,), DEEP,
                (DEEP, DEEP), NESTED, (1000001, 1), ("5", "2"),
            ):
                self.refuse((program, wrong), index=index)
        undefined = Task(["number"], "number", [("divide", 1)], [(0, 1)])
        line = (("divide", X0, ("constant", 0)), (None, None))
        self.assertIn(line, all_lines(undefined, rows, 3)["number"])
        index = all_lines(undefined, rows, 3)["number"].index(line)
        for wrong in ((None, 0), (0, 0), (None,), (False, None)):
            self.refuse((line[0], wrong), index=index, task=undefined)

    def test_rule_1_one_is_not_true(self):
        self.refuse((ONE, (True, True)), index=1)
        self.refuse((ONE, (1, True)), index=1)
        truths = Task(["number"], "truth", [("less", 1)], [(0, 1), (True, 1)])
        lines = all_lines(truths, [(5,), (-2,)], 3)
        for index, (program, told) in enumerate(lines["truth"]):
            self.refuse((program, tuple([int(value) for value in told])), "truth", index, truths, [(5,), (-2,)])
        lists = Task(["list"], "list", [("append", 1)], [(1, 1)])
        self.refuse((X0, ((True, 0),)), "list", 0, lists, [((1, 0),)])
        self.refuse((X0, ([1, 0],)), "list", 0, lists, [((1, 0),)])

    def test_rule_1_kind_of_the_list(self):
        # Without rows all outcomes are equal.
        for task, rows in ((ORDER, [(1, 2)]), (ORDER, []), (CONSTANTS, [()]), (CONSTANTS, [])):
            lines = all_lines(task, rows, 3)
            for kind in KINDS:
                for line in lines[kind]:
                    for other in KINDS:
                        if other != kind:
                            for moved in (True, False):
                                changed = copied(lines)
                                changed[other].insert(0, line)
                                if moved:
                                    changed[kind].remove(line)
                                self.assertIs(is_closed(task, rows, 3, changed), False)

    def test_rule_2_order(self):
        rows = [(5,), (2,)]
        lines = all_lines(NUMBERS, rows, 4)
        for first in range(len(lines["number"])):
            for second in range(first):
                changed = copied(lines)
                here = changed["number"]
                here[first], here[second] = here[second], here[first]
                self.assertIs(is_closed(NUMBERS, rows, 4, changed), False)
        backward = {kind: lines[kind][::-1] for kind in KINDS}
        self.assertIs(is_closed(NUMBERS, rows, 4, backward), False)

    def test_rule_2_equal_outcomes(self):
        lines = all_lines(NUMBERS, [(5,), (2,)], 4)
        for line in lines["number"]:
            self.refuse(line, cost=4)
        # (add 1 x0) comes behind (add x0 1).
        self.refuse((("add", ONE, X0), (6, 3)))
        self.refuse((("neg", ("neg", X0)), (5, 2)))

    def test_rule_3(self):
        # 1 and x0 have the same outcome: only the input, which comes first, may stand there.
        self.refuse((ONE, (1,)), index=0, rows=[(1,)])
        task = Task(["number", "number"], "number", [("neg", 1)], [(1, 1)])
        lines = {"number": [(X0, (1,))], "truth": [], "text": [], "list": []}
        self.assertIs(is_closed(task, [(1, 1)], 1, lines), True)
        for wrong in (X1, ONE):
            lines["number"] = [(wrong, (1,))]
            self.assertIs(is_closed(task, [(1, 1)], 1, lines), False)
        costly = Task(["number"], "number", [("neg", 1)], [(1, 3), (2, 1)], input_cost=2)
        two = ("constant", 2)
        expected = [(two, (2,)), (X0, (5,)), (("neg", two), (-2,)), (ONE, (1,)), (("neg", X0), (-5,))]
        lines["number"] = expected
        self.assertIs(is_closed(costly, [(5,)], 3, lines), True)
        for index in range(5):
            lines["number"] = expected[:index] + expected[index + 1:]
            self.assertIs(is_closed(costly, [(5,)], 3, lines), False)
        lines["number"] = expected[:3]
        self.assertIs(is_closed(costly, [(5,)], 2, lines), True)
        lines["number"] = expected[:1]
        self.assertIs(is_closed(costly, [(5,)], 1, lines), True)

    def test_rule_4_later_program(self):
        rows = [(5,), (2,)]
        for cost in (3, 4, 5):
            lines = all_lines(NUMBERS, rows, cost)
            for index, (program, told) in enumerate(lines["number"]):
                alike = [other for price in range(1, cost + 1) for other in in_order(NUMBERS, price, "number")
                         if other != program and outcomes(other, rows) == told]
                for other in alike[:5]:
                    self.refuse((other, told), index=index, cost=cost)

    def test_costs_at_the_limits(self):
        empty = {kind: [] for kind in KINDS}
        for task, rows, _ in TABLES:
            self.assertIs(is_closed(task, rows, 0, empty), True)
            self.assertIs(is_closed(task, rows, 30, empty), False)
        self.assertIs(is_closed(NUMBERS, [(5,)], 0, all_lines(NUMBERS, [(5,)], 1)), False)
        task = Task(["truth"], "truth", [("negate", 1)], [])
        lines = all_lines(task, [(True,)], 30)
        for cost in (2, 3, 29, 30, 31):
            self.assertIs(is_closed(task, [(True,)], cost, lines), True)

    def test_forms(self):
        lines = all_lines(NUMBERS, [(5,)], 3)
        self.assertIs(is_closed(NUMBERS, [(5,)], 3, {kind: lines[kind] for kind in KINDS[::-1]}), True)
        for kind in KINDS:
            self.assertIs(is_closed(NUMBERS, [(5,)], 3, {key: lines[key] for key in lines if key != kind}), False)
            for wrong in (None, (), tuple(lines[kind]), {}, "", 0, {0: lines[kind]}, DEEP):
                self.assertIs(is_closed(NUMBERS, [(5,)], 3, {**lines, kind: wrong}), False)
        for key in ("", "numbers", "Number", None, 0, True, (), ("number",)):
            self.assertIs(is_closed(NUMBERS, [(5,)], 3, {**lines, key: []}), False)
            fewer = {**lines, key: []}
            del fewer["text"]
            self.assertIs(is_closed(NUMBERS, [(5,)], 3, fewer), False)

    def test_anything(self):
        for wrong in ANYTHING:
            self.assertIs(is_closed(NUMBERS, [(5,)], 0, wrong), False)
            for kind in KINDS:
                self.refuse(wrong, kind)
                self.refuse((wrong, (0, 0)), kind)
                self.refuse((X0, wrong), kind)
                self.refuse((wrong, wrong), kind)
                self.refuse((X0, (5, 2), wrong), kind)
                self.refuse([X0, (5, 2)], kind)

    def test_arguments_are_not_modified(self):
        for task, rows, most in TABLES[:8]:
            lines = all_lines(task, rows, most)
            before = exactly((rows, lines))
            is_closed(task, rows, most, lines)
            is_closed(task, rows, most + 1, lines)
            self.assertEqual(exactly((rows, lines)), before)


class AcceptedTest(unittest.TestCase):

    def test_answers_of_searches(self):
        words = []
        for goal, most, certificate in CERTIFICATES:
            self.assertIs(accepts(goal, certificate), True)
            words.append(certificate[0])
        self.assertIn("least", words)
        self.assertIn("none", words)

    def test_clues_that_were_not_searched(self):
        # All clues, in any order and repeated, and no more than needed.
        chance = random.Random(2)
        for goal, most, certificate in CERTIFICATES:
            every = example_clues(goal) + [("asked", row) for row in goal.rows()]
            for _ in range(12):
                clues = chance.sample(every, len(every))[chance.randrange(len(every) + 1):]
                self.check(goal, certificate, clues + [chance.choice(clues) for _ in clues[1:]])

    def check(self, goal, certificate, clues):
        """The certificate with other clues is accepted if no program that it excludes fits them all."""
        task = goal.task()
        word, subject = certificate[:2]
        lines = all_lines(task, clue_rows(clues), subject if word == "none" else task.cost(subject))
        excluded = [program for program, _ in lines[task.result()]
                    if word == "none" or comes_before(task, program, subject)]
        expected = not any(all(fits_clue(goal, program, clue) for clue in clues) for program in excluded)
        self.assertIs(accepts(goal, (word, subject, clues, lines)), expected)

    def test_more_than_forty_clues(self):
        goal = goal_of(NUMBERS, [], ["(less x0 x1)"], [list(range(300))])
        clues = [("asked", row) for row in goal.rows()]
        lines = all_lines(NUMBERS, clue_rows(clues), 3)
        self.assertIs(accepts(goal, ("least", ("add", X0, ONE), clues, lines)), True)
        self.assertIs(accepts(goal, ("none", 3, clues, lines)), False)
        self.assertIs(accepts(goal, ("none", 2, clues, all_lines(NUMBERS, clue_rows(clues), 2))), True)

    def test_other_programs_than_the_least(self):
        for goal, most, certificate in CERTIFICATES:
            task, least = goal.task(), least_fitting(goal, most)
            # Without clues only the first program of the kind is the least one.
            first = least_fitting(goal_of(task), most)
            for cost in range(1, 6):
                with_clues = all_lines(task, clue_rows(certificate[2]), cost)
                without = all_lines(task, [], cost)
                for _, program in programs_of(task, cost)[:60]:
                    self.assertIs(accepts(goal, ("least", program, certificate[2], with_clues)), program == least)
                    self.assertIs(accepts(goal, ("least", program, [], without)), program == least == first)

    def test_other_costs_than_those_without_a_program(self):
        for goal, most, certificate in CERTIFICATES:
            least = least_fitting(goal, most)
            for cost in range(most):
                is_true = least is None or goal.task().cost(least) > cost
                lines = all_lines(goal.task(), clue_rows(certificate[2]), cost)
                self.assertIs(accepts(goal, ("none", cost, certificate[2], lines)), is_true)
                if not is_true:
                    for clues in ([], example_clues(goal), [("asked", row) for row in goal.rows()]):
                        lines = all_lines(goal.task(), clue_rows(clues), cost)
                        self.assertIs(accepts(goal, ("none", cost, clues, lines)), False)

    def test_nothing_untrue_is_accepted(self):
        chance = random.Random(3)
        accepted = 0
        for goal, most, certificate in CERTIFICATES:
            task = goal.task()
            least = least_fitting(goal, most)
            every = example_clues(goal) + [("asked", row) for row in goal.rows()]
            for _ in range(150):
                clues = [clue for clue in every if chance.random() < 0.6]
                cost = chance.randrange(5)
                lines = all_lines(task, clue_rows(clues), cost)
                if chance.random() < 0.3:
                    lines = spoilt(task, clue_rows(clues), lines, chance)
                subject = cost
                if chance.random() < 0.5:
                    subject = chance.choice(programs_of(task, max(cost, 1)) or [(None, X0)])[1]
                found = accepts(goal, ("least" if isinstance(subject, tuple) else "none", subject, clues, lines))
                accepted += found
                if found and isinstance(subject, tuple):
                    self.assertEqual(exactly(subject), exactly(least))
                elif found:
                    self.assertTrue(least is None or task.cost(least) > cost)
        self.assertGreater(accepted, 200)

    def test_clues_of_other_goals(self):
        goal = goal_of(NUMBERS, [((2,), 3)], ["(less x0 x1)"], [[0, 4]])
        for clue in (
            ("example", (2,), 4), ("example", (3,), 3), ("example", (0,), 1), ("asked", (2,)), ("asked", (1,)),
            ("example", (2,), True), ("asked", (False,)),
        ):
            for clues in ([("asked", (0,)), clue], [clue, ("asked", (0,))]):
                rows = clue_rows(clues)
                self.assertIs(accepts(goal, ("none", 2, clues, all_lines(NUMBERS, rows, 2))), False)
                self.assertIs(accepts(goal, ("least", ("add", X0, ONE), clues, all_lines(NUMBERS, rows, 3))), False)
        clues = [("asked", (0,)), ("example", (2,), 3)]
        lines = all_lines(NUMBERS, [(0,), (2,)], 3)
        self.assertIs(accepts(goal, ("least", ("add", X0, ONE), clues, lines)), True)
        self.assertIs(accepts(goal, ("least", ("add", X0, ONE), tuple(clues), lines)), False)

    def test_one_is_not_true_in_clues(self):
        task = Task(["truth"], "truth", [("negate", 1)], [])
        goal = goal_of(task, [((True,), False)])
        lines = all_lines(task, [(True,)], 2)
        self.assertIs(accepts(goal, ("least", ("negate", X0), [("example", (True,), False)], lines)), True)
        for clue in (("example", (1,), False), ("example", (True,), 0), ("example", (1,), 0)):
            self.assertIs(accepts(goal, ("least", ("negate", X0), [clue], lines)), False)

    def test_programs_that_are_not_of_the_task(self):
        task = Task(["number"], "number", [("neg", 1), ("less", 1)], [(1, 1)])
        goal = goal_of(task, [((1,), 1)])
        clues = [("example", (1,), 1)]
        for cost in (1, 2, 3):
            lines = all_lines(task, [(1,)], cost)
            for program in (
                ("constant", True), ("constant", 2), ("abs", X0), ("neg", ("neg", ("input", 1))), ("input", False), X1,
                ("less", X0, X0), (), None, 1, "x0", [X0], ["input", 0], ("neg", ("neg", [1])), ("input", 0, 0),
            ):
                self.assertIs(accepts(goal, ("least", program, clues, lines)), False)
        self.assertIs(accepts(goal, ("least", X0, clues, all_lines(task, [(1,)], 1))), True)
        self.assertIs(accepts(goal, ("least", ONE, clues, all_lines(task, [(1,)], 1))), False)

    def test_cost_of_a_certificate_without_program(self):
        goal = goal_of(NUMBERS, [((2,), 3), ((2,), 4)])
        clues = example_clues(goal)
        empty = {kind: [] for kind in KINDS}
        self.assertIs(accepts(goal, ("none", 0, [], empty)), True)
        self.assertIs(accepts(goal, ("none", 0, clues, empty)), True)
        lines = all_lines(NUMBERS, clue_rows(clues), 1)
        self.assertIs(accepts(goal, ("none", 1, clues, lines)), True)
        for wrong in (-1, 2, 30, 31, 10 ** 30, None, "1", (1,), [1], True, False, X0, DEEP):
            self.assertIs(accepts(goal, ("none", wrong, clues, lines)), False)
            self.assertIs(accepts(goal, ("none", wrong, clues, empty)), False)

    def test_costs_30_and_31(self):
        task = Task(["truth"], "truth", [("negate", 1)], [])
        goal = goal_of(task, [((True,), True), ((True,), False)])
        clues = example_clues(goal)
        lines = all_lines(task, clue_rows(clues), 30)
        for cost, expected in ((1, False), (2, True), (29, True), (30, True), (31, False), (32, False), (-1, False)):
            self.assertIs(accepts(goal, ("none", cost, clues, lines)), expected)
        up = Task([], "number", [("double", 9)], [(1, 1), (5, 1), (7, 3), (11, 4)])
        for value, expected in ((8, True), (16, False)):
            program = ("constant", 1)
            while outcomes(program, [()])[0] != value:
                program = ("double", program)
            self.assertEqual(up.cost(program), 28 if value == 8 else 37)
            goal = goal_of(up, [((), value)])
            clues = example_clues(goal)
            self.assertIs(accepts(goal, ("least", program, clues, all_lines(up, [()], up.cost(program)))), expected)
        for value, cost, expected in ((56, 30, True), (88, 31, False)):
            program = ("double", ("double", ("double", ("constant", value // 8))))
            self.assertEqual(up.cost(program), cost)
            goal = goal_of(up, [((), value)])
            clues = example_clues(goal)
            self.assertIs(accepts(goal, ("least", program, clues, all_lines(up, [()], cost))), expected)
            self.assertIs(accepts(goal, ("none", cost - 1, clues, all_lines(up, [()], cost - 1))), True)

    def test_spoilt_tables(self):
        chance = random.Random(4)
        for goal, most, certificate in CERTIFICATES:
            word, subject, clues, lines = certificate
            for _ in range(40):
                changed = spoilt(goal.task(), clue_rows(clues), lines, chance)
                self.assertIs(accepts(goal, (word, subject, clues, changed)), exactly(changed) == exactly(lines))

    def test_other_forms(self):
        for goal, most, certificate in CERTIFICATES:
            word, subject, clues, lines = certificate
            for wrong in (
                list(certificate), certificate[:3], (*certificate, None), ("open",), (), (word,), (word, subject),
                ("None", subject, clues, lines), ("", subject, clues, lines), (None, subject, clues, lines),
                ((word,), subject, clues, lines), ([word], subject, clues, lines), (subject, word, clues, lines),
                (word, subject, lines, clues), (word, subject, tuple(clues), lines), (word, subject, clues, None),
                (word, subject, None, lines), (word, subject, clues, []), (word, subject, clues, list(lines)),
                (word, subject, {}, lines), ("least" if word == "none" else "none", subject, clues, lines), word, lines,
            ):
                self.assertIs(accepts(goal, wrong), False)

    def test_anything(self):
        for goal, _, certificate in CERTIFICATES[:6]:
            word, subject, clues, lines = certificate
            for wrong in ANYTHING:
                self.assertIs(accepts(goal, wrong), False)
                self.assertIs(accepts(goal, (wrong, subject, clues, lines)), wrong == word)
                self.assertIs(accepts(goal, (word, wrong, clues, lines)), written(wrong) == exactly(subject))
                self.assertIs(accepts(goal, (word, subject, [wrong], lines)), False)
                self.assertIs(accepts(goal, (word, subject, clues + [wrong], lines)), False)
                self.assertIs(accepts(goal, (word, subject, clues, wrong)), False)
                self.assertIs(accepts(goal, (wrong,) * 4), False)
                for kind in KINDS:
                    self.assertIs(accepts(goal, (word, subject, clues, {**lines, kind: [wrong]})), False)

    def test_arguments_are_not_modified(self):
        for goal, most, certificate in CERTIFICATES:
            before = exactly(certificate)
            accepts(goal, certificate)
            self.assertEqual(exactly(certificate), before)


def written(thing):
    """What tells a thing from all others, or None if it is nested too deep."""
    try:
        return repr(thing)
    except RecursionError:
        return None


class StayingTest(unittest.TestCase):
    """Point 71: what is still accepted for other goals."""

    def changed_goals(self, goal):
        task, properties, box = goal.task(), goal.properties(), goal.box()
        values = {"number": 7, "truth": False, "text": "ab", "list": (2, 1)}
        row = tuple([values[kind] for kind in task.kinds()])
        yield Goal(task, goal.examples() + [(row, values[task.result()])], properties, box)
        yield Goal(task, goal.examples()[::-1], properties[::-1], box)
        yield Goal(task, goal.examples(), properties + [("constant", True)], box)
        yield Goal(task, goal.examples(), properties + [("constant", False)], box)
        yield Goal(task, goal.examples()[:-1], properties, box)
        yield Goal(task, goal.examples(), properties[:-1], box)
        yield Goal(task, goal.examples(), properties, [column[::-1] + column for column in box])
        yield Goal(task, goal.examples(), properties, [column[1:] for column in box])
        yield Goal(task, goal.examples(), properties, [column + [value] for column, value in zip(box, row)])
        yield Goal(task, [], [], [[] for _ in task.kinds()])

    def test_other_goals(self):
        stayed = []
        for goal, most, certificate in CERTIFICATES:
            for other in self.changed_goals(goal):
                stays = accepts(other, certificate)
                least = least_fitting(other, most)
                if stays and certificate[0] == "least":
                    self.assertEqual(least, certificate[1])
                elif stays:
                    self.assertIsNone(least)
                clues = example_clues(other) + [("asked", row) for row in other.rows()]
                kept = all(clue in clues for clue in certificate[2])
                if kept and all(one in other.properties() for one in goal.properties()):
                    self.assertIs(stays, certificate[0] == "none" or fits(other, certificate[1]))
                if not kept:
                    self.assertIs(stays, False)
                stayed.append(stays)
        self.assertIn(True, stayed)
        self.assertIn(False, stayed)


if __name__ == "__main__":
    unittest.main()
