"""Promises 0 to 4 for second, runs, bench and texts, and over the whole program."""

import importlib
import inspect
import operator

from loopcuts import bench as bench_file
from loopcuts.bench import Bench, tried
from loopcuts.choices import all_least, steps_of
from loopcuts.codes import Code
from loopcuts.cuts import least_cost, least_cut
from loopcuts.doors import doors_paper
from loopcuts.errors import BadCode, NoCut
from loopcuts.loops import loops
from loopcuts.runs import is_run, longest_unmet, met, runs_of
from loopcuts.second import least_cost_too, one_door_too
from loopcuts.texts import code_text, loop_text, read_code
from tests.asks import Asks, asked
from tests.made import crossing, known_codes, large_codes, several_door_codes
from tests.samples import every_kind, example, nested, ring, single, whole
from tests.test_conventions import BINARY

INTERFACE = {
    "second": {"least_cost_too": ["code"], "one_door_too": ["code"]},
    "runs": {"is_run": ["code", "thing"], "met": ["code", "run", "lot"], "longest_unmet": ["code", "lot"],
             "runs_of": ["code", "many"]},
    "bench": {"tried": ["bench", "function"]},
    "texts": {"code_text": ["code"], "read_code": ["text"], "loop_text": ["code", "loop"]},
}
METHODS = {"__init__": ["self", "code"], "worth": ["self"], "jump": ["self", "jump"], "drop": ["self", "number"],
           "price": ["self", "number", "price"], "undo": ["self", "many"], "trial": ["self"]}


def led():
    bench = Bench(example())
    bench.price(0, 1)
    return bench


def deeds(code):
    """Return what a bench of the code tells behind some deeds."""
    bench = Bench(code)
    told = [bench.worth(), len(bench)]
    for number in range(len(code)):
        bench.price(number, 7)
        told.append((bench.worth(), bench.code.jumps))
        told.append(tried(bench, lambda same: (same.undo(), same.code.jumps, len(same))))
    return told + [len(bench), bench.code.jumps]


def answers(code):
    """Return what the calls tell of a code, the exceptions by their fields."""
    told = [least_cost_too(code), one_door_too(code), code_text(code), read_code(code_text(code)).jumps, deeds(code)]
    told += [runs_of(code, many) for many in range(3)]
    told += [loop_text(code, loop) for loop in loops(code)]
    told += [longest_unmet(code, cut) for cut in all_least(code)]
    cut = least_cut(code)
    told += [met(code, run, cut) for run in runs_of(code, 3)]
    try:
        told.append(longest_unmet(code, ()))
    except NoCut as error:
        told.append(error.loop)
    return told


def calls_with(value):
    """Return calls to which any value is passed, each as a function without arguments."""
    return [lambda: is_run(example(), value), lambda: met(example(), value, (1,)), lambda: met(example(), (0,), value),
            lambda: met(example(), value, value), lambda: longest_unmet(example(), value),
            lambda: runs_of(example(), value), lambda: read_code(value), lambda: loop_text(example(), value),
            lambda: led().jump(value), lambda: led().drop(value), lambda: led().price(value, 1),
            lambda: led().price(0, value), lambda: led().price(value, value), lambda: led().undo(value),
            lambda: led() == value, lambda: led() != value]


class NothingIsModified(Asks):

    def test_values_that_are_passed_stay_as_they_are(self):
        for make in [lambda: [0, 1, 2], lambda: [[0], [1, [2]]], lambda: ([0], [1]), lambda: (0, [1]),
                     lambda: ["a", "b", 1], lambda: (["a"], "b", [1]), lambda: {"a": [1]}, lambda: {1: {}},
                     lambda: ["places a", "door a"], lambda: [b"places a"], lambda: ([[]], ([],), [()])]:
            value = make()
            for call in calls_with(value):
                asked(call)
                self.assertEqual(value, make())

    def test_codes_that_are_passed_stay_as_they_are(self):
        self.leave_codes(answers)

    def test_benches_that_are_asked_stay_as_they_are(self):
        bench = led()
        for call in [bench.worth, bench.trial, lambda: bench.code, lambda: len(bench), lambda: bench == led(),
                     lambda: bench != Bench(single()), lambda: tried(bench, Bench.undo)]:
            call()
            self.assertEqual((bench.code, len(bench)), (example().priced(0, 1), 1))

    def test_a_bench_keeps_nothing_that_a_caller_can_change(self):
        jumps = [("a", "b", 1), ("b", "a", 2)]
        bench = Bench(Code(("a", "b"), "a", jumps))
        jumps[0] = ("a", "b", 9)
        jumps.append(("a", "a", 3))
        self.assertEqual(bench.code.jumps, (("a", "b", 1), ("b", "a", 2)))
        for wrong in (["a", "a", 1], ("a", ["a"], 1), [("a", "a", 1)]):
            self.refused(BadCode, "place", bench.jump, wrong)
        self.assertEqual((len(bench), bench.worth()), (0, 1))


class EqualCalls(Asks):

    def test_equal_codes_whatever_was_asked_in_between(self):
        self.tell_equal(answers, calls_with)


class WhatWasTold(Asks):

    def test_it_may_be_passed(self):
        code = Code(("a",), "a", [("a", "a", 1)] * 12)
        runs = runs_of(code, 4)
        for value in (runs, runs + (None,), list(runs), runs[:-1] + ((True,),), (runs, runs), steps_of(code, 0),
                      doors_paper(crossing()), code_text(ring(2)), code, Bench(code), loops(whole())):
            for call in calls_with(value):
                asked(call)
            self.assertIs(is_run(code, value), False)
        self.assertTrue(all([is_run(code, run) for run in runs]))

    def test_great_and_deep_values(self):
        for value in [nested(50), (0,) * 29999, (1, 2) * 14999, "a" * 30000, "\n" * 30000, " " * 30000, [nested(49)],
                      "places a\ndoor a\n" + "9" * 29900, ("a", "a", 10 ** 999), 10 ** 999, (10 ** 999,) * 29]:
            for call in calls_with(value)[:-1]:
                self.assertIs(asked(call), False)

    def test_long_runs(self):
        code = Code(("a",), "a", [("a", "a", 1)] * 12)
        self.assertEqual(met(code, (5,) * 30000, (5,)), 30000)


class ArgumentsByName(Asks):

    def test_each_can_be_passed_by_its_name(self):
        code = example()
        self.assertEqual((least_cost_too(code=code), one_door_too(code=code)), (3, True))
        self.assertIs(is_run(thing=(0, 1), code=code), True)
        self.assertEqual(met(lot=(1,), run=(0, 1, 2, 1), code=code), 2)
        self.assertEqual(longest_unmet(lot=(1,), code=code), 1)
        self.assertEqual(runs_of(many=2, code=code), ((0, 1),))
        self.assertEqual(read_code(text=code_text(code=code)), code)
        self.assertEqual(loop_text(loop=(1, 2), code=code), "b>c>b")

    def test_those_of_a_bench(self):
        bench = Bench(code=example())
        bench.jump(jump=("a", "a", 1))
        bench.price(price=7, number=4)
        bench.drop(number=3)
        self.assertEqual(bench.code.jumps, example().jumps[:3] + (("a", "a", 7),))
        bench.undo(many=2)
        self.assertEqual(bench.code, example().with_jump(("a", "a", 1)))
        bench.undo()
        self.assertEqual(tried(function=len, bench=bench), 0)


class Operators(Asks):

    def test_between_a_bench_and_anything(self):
        for name in BINARY:
            act = getattr(operator, name)
            for value in every_kind() + [example(), led()]:
                with self.assertRaises(TypeError, msg=name):
                    act(led(), value)
                with self.assertRaises(TypeError, msg=name):
                    act(value, led())

    def test_between_a_code_and_a_bench(self):
        for one, other in [(example(), Bench(example())), (Bench(example()), example())]:
            self.assertIs(one == other, False)
            self.assertIs(one != other, True)
            for name in BINARY:
                with self.assertRaises(TypeError, msg=name):
                    getattr(operator, name)(one, other)

    def test_of_a_bench_alone(self):
        for act in (operator.neg, operator.pos, operator.invert, operator.abs, operator.index):
            with self.assertRaises(TypeError):
                act(led())

    def test_iterating_and_in(self):
        for bench in (led(), Bench(single()), Bench(example())):
            for act in (iter, list, tuple, set, dict, sorted, sum, enumerate, zip, reversed, any, all):
                with self.assertRaises(TypeError):
                    act(bench)
            with self.assertRaises(TypeError):
                for _ in bench:
                    pass
            with self.assertRaises(TypeError):
                bench[0]
            for value in every_kind() + [("a", "b", 5), example()]:
                with self.assertRaises(TypeError):
                    value in bench
                with self.assertRaises(TypeError):
                    value not in bench


class Interface(Asks):

    def test_each_function_is_defined_in_its_file_with_its_parameters(self):
        for file, told in INTERFACE.items():
            module = importlib.import_module("loopcuts." + file)
            for name, names in told.items():
                call = getattr(module, name)
                self.assertEqual(call.__module__, module.__name__)
                self.has_parameters(call, names)

    def has_parameters(self, call, names):
        parameters = inspect.signature(call).parameters.values()
        self.assertEqual([parameter.name for parameter in parameters], names)
        for parameter in parameters:
            self.assertEqual(parameter.kind, parameter.POSITIONAL_OR_KEYWORD)
            default = 1 if names == METHODS["undo"] and parameter.name == "many" else parameter.empty
            self.assertEqual(parameter.default, default)

    def test_each_method_is_defined_in_the_class_itself(self):
        self.assertIs(bench_file.Bench, Bench)
        self.assertEqual(Bench.__module__, "loopcuts.bench")
        for name, names in METHODS.items():
            self.assertIn(name, vars(Bench))
            self.has_parameters(vars(Bench)[name], names)
        for name in ("__len__", "__eq__"):
            self.assertIn(name, vars(Bench))
        self.assertIsInstance(vars(Bench)["code"], property)

    def test_kinds_of_results(self):
        for code in known_codes() + several_door_codes() + large_codes(2):
            self.assertIs(least_cost_too(code).__class__, int)
            self.assertIs(one_door_too(code).__class__, bool)
            self.assertIs(Bench(code).worth().__class__, int)
            self.assertIs(code_text(code).__class__, str)
            self.assertIs(runs_of(code, 1).__class__, tuple)
            self.assertEqual(least_cost_too(code), least_cost(code))
