"""Promises 0 to 4 for doors, cuts, spots and choices, and their interface."""

import importlib
import inspect

from loopcuts.choices import all_least, always, left_from, sometimes, steps_of
from loopcuts.codes import Code
from loopcuts.cuts import check, cost, is_cut, is_pack, least_cost, least_cut, least_within, paper
from loopcuts.doors import check_doors, door_of, doors_paper, one_door
from loopcuts.errors import BadPaper, LoopError, NoCut, SeveralDoors
from loopcuts.loops import is_loop, loops, places_of
from loopcuts.spots import check_spots, least_spots, spots_cost, spots_paper
from tests.asks import Asks, asked
from tests.made import crossing, known_codes, large_codes, nesting, several_door_codes
from tests.samples import every_kind, example, nested, ring, single, whole

INTERFACE = {
    "doors": {"one_door": ["code"], "door_of": ["code", "loop"], "doors_paper": ["code"],
              "check_doors": ["code", "paper"]},
    "cuts": {"is_cut": ["code", "lot"], "cost": ["code", "lot"], "least_cost": ["code"], "least_cut": ["code"],
             "least_within": ["code", "lot"], "is_pack": ["code", "thing"], "paper": ["code"],
             "check": ["code", "cut", "pack"]},
    "spots": {"least_spots": ["code", "prices"], "spots_cost": ["code", "prices"], "spots_paper": ["code", "prices"],
              "check_spots": ["code", "prices", "lot", "thing"]},
    "choices": {"all_least": ["code"], "always": ["code"], "sometimes": ["code"], "left_from": ["code", "number"],
                "steps_of": ["code", "number"]},
}
PACK = (((1, 2), 1), ((1, 3), 2))
OF_CODES = (one_door, doors_paper, least_cost, least_cut, all_least, always, sometimes)


def answers(code):
    """Return what the calls tell of a code, the exceptions by their fields."""
    told = [call(code) for call in OF_CODES]
    for call, *args in [(paper,), (spots_paper, (2,) * len(code.places)), (least_within, tuple(range(len(code)))),
                        (least_within, ()), (least_spots, (1,) * len(code.places)), (left_from, 0), (steps_of, 0)]:
        try:
            told.append(call(code, *args))
        except SeveralDoors as error:
            told.append(error.paper)
        except NoCut as error:
            told.append(error.loop)
        except LoopError as error:
            told.append(error.value)
    return told


def calls_with(value):
    """Return calls to which any value is passed, each as a function without arguments."""
    return [lambda: door_of(example(), value), lambda: check_doors(example(), value),
            lambda: check_doors(example(), ("one", value)), lambda: check_doors(example(), ("one", (value,))),
            lambda: check_doors(crossing(), ("several", value, (0,), (1,))),
            lambda: check_doors(crossing(), ("several", (2, 3), value, (1,))),
            lambda: check_doors(crossing(), ("several", (2, 3), (0,), value)),
            lambda: is_cut(example(), value), lambda: cost(example(), value), lambda: least_within(example(), value),
            lambda: is_pack(example(), value), lambda: is_pack(example(), (value,)),
            lambda: check(example(), value, value), lambda: check(example(), (1,), value),
            lambda: least_spots(example(), value), lambda: spots_cost(example(), value),
            lambda: spots_paper(example(), value), lambda: check_spots(example(), value, value, value),
            lambda: check_spots(example(), (1, 1, 1), value, value),
            lambda: check_spots(example(), (1, 1, 1), ("b",), value),
            lambda: left_from(example(), value), lambda: steps_of(example(), value)]


class NothingIsModified(Asks):

    def test_values_that_are_passed_stay_as_they_are(self):
        for make in [lambda: [("c", "b"), ["b", "a"], []], lambda: [[(1, 2), 1], [[1, 3], 2]], lambda: [1, [2], [[]]],
                     lambda: ([1, 2], [0], {"a": [1]}), lambda: {"a": [1], "b": {}}, lambda: ([[]], ([],), [()])]:
            value = make()
            for call in calls_with(value):
                asked(call)
                self.assertEqual(value, make())

    def test_codes_that_are_passed_stay_as_they_are(self):
        self.leave_codes(answers)


class EqualCalls(Asks):

    def test_equal_codes_whatever_was_asked_in_between(self):
        self.tell_equal(answers, calls_with)


class WhatWasTold(Asks):

    def test_it_may_be_passed(self):
        for code in large_codes(3) + [whole(), ring(2), crossing(), single()]:
            for value in answers(code) + [loops(code), tuple(answers(code)), answers(code), code]:
                for call in calls_with(value):
                    asked(call)
                self.assertIs(is_loop(code, value), value.__class__ is tuple and value in loops(code))

    def test_a_great_thing_with_something_otherwise_in_it(self):
        code = Code(("a",), "a", [("a", "a", 20)] * 12)
        cut, pack = paper(code)
        for value in (None, True, (0,), [0], 10 ** 999, "a"):
            self.refused(BadPaper, "place", check, code, cut[:-1] + (value,), pack)
            self.assertIs(is_pack(code, pack[:-1] + (value,)), False)

    def test_great_and_deep_values(self):
        for value in [nested(50), (0,) * 29999, (1, 2) * 14999, "a" * 30000, [nested(49)], ((1, 2),) * 9999,
                      (((1, 2), 1),) * 5999, (("c", "b"),) * 9999, ("b",) * 29999]:
            for call in calls_with(value):
                self.assertIs(asked(call), False)


class ArgumentsByName(Asks):

    def test_each_can_be_passed_by_its_name(self):
        code = example()
        self.assertIs(one_door(code=code), True)
        self.assertEqual(door_of(loop=(1, 2), code=code), "b")
        self.assertEqual(check_doors(paper=doors_paper(code=code), code=code), "one")
        self.assertEqual((is_cut(lot=(1,), code=code), cost(lot=(1,), code=code)), (True, 3))
        self.assertEqual((least_cost(code=code), cost(code, least_cut(code=code))), (3, 3))
        self.assertEqual(least_within(lot=(2, 3), code=code), (2, 3))
        self.assertIs(is_pack(thing=PACK, code=code), True)
        self.assertEqual(check(pack=PACK, code=code, cut=(1,)), 3)
        self.assertEqual(paper(code=code), paper(code))
        self.assertEqual(least_spots(prices=(1, 2, 3), code=code), ("b",))
        self.assertEqual(spots_cost(prices=(1, 2, 3), code=code), 2)
        self.assertEqual(spots_paper(prices=(1, 2, 3), code=code), spots_paper(code, (1, 2, 3)))
        self.assertEqual(check_spots(thing=(((1, 2), 2),), lot=("b",), prices=(1, 2, 3), code=code), 2)
        self.assertEqual((all_least(code=code), always(code=code)), (((1,), (2, 3)), ()))
        self.assertEqual((sometimes(code=code), left_from(number=1, code=code)), ((1, 2, 3), 4))
        self.assertEqual(steps_of(number=0, code=code), (3,) * 21)


class Interface(Asks):

    def test_each_function_is_defined_in_its_file_with_its_parameters(self):
        for file, told in INTERFACE.items():
            module = importlib.import_module("loopcuts." + file)
            for name, names in told.items():
                call = getattr(module, name)
                self.assertEqual(call.__module__, module.__name__)
                parameters = inspect.signature(call).parameters.values()
                self.assertEqual([parameter.name for parameter in parameters], names)
                for parameter in parameters:
                    self.assertEqual(parameter.kind, parameter.POSITIONAL_OR_KEYWORD)
                    self.assertIs(parameter.default, parameter.empty)

    def test_kinds_of_results(self):
        for code in known_codes() + several_door_codes():
            self.assertIsInstance(one_door(code), bool)
            self.assertIs(least_cost(code).__class__, int)
            for told in answers(code)[2:]:
                self.assertNotIsInstance(told, list)
            for call in (doors_paper, least_cut, all_least, always, sometimes):
                self.assertIsInstance(call(code), tuple)
        self.assertIsInstance(is_cut(nesting(), ()), bool)
        self.assertEqual(places_of(nesting(), (2, 3)), ("c", "d"))
        self.assertEqual([value for value in every_kind() if is_pack(single(), value)], [()])
