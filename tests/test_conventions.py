"""Promises 0, 1, 3 and 4: what holds for everything."""

import copy
import inspect
import operator

from loopcuts import codes, errors, loops as loops_file
from loopcuts.codes import Code
from loopcuts.errors import BadCode, BadLoop, BadNumber
from loopcuts.loops import is_loop, is_way, loops, places_of
from tests.asks import Asks
from tests.samples import every_kind, example, nested, ring, single, whole

BINARY = ["add", "sub", "mul", "floordiv", "truediv", "mod", "pow", "matmul", "and_", "or_", "xor", "lshift", "rshift",
          "lt", "le", "gt", "ge", "concat", "iadd", "isub", "imul", "ifloordiv", "itruediv", "imod", "ipow",
          "imatmul", "iand", "ior", "ixor", "ilshift", "irshift"]


class NothingIsModified(Asks):

    def test_lists_that_are_passed_stay_as_they_are(self):
        jumps = [("a", "b", 1), ("b", "a", 2)]
        before = copy.deepcopy(jumps)
        Code(("a", "b"), "a", jumps)
        self.assertEqual(jumps, before)
        wrong = [("a", "b", 1), ["b", "a", 2], [[]]]
        before = copy.deepcopy(wrong)
        self.refused(BadCode, "place", Code, ("a", "b"), "a", wrong)
        self.refused(BadCode, "place", example().with_jump, wrong)
        self.refused(BadNumber, "value", example().priced, wrong, wrong)
        self.refused(BadLoop, "value", places_of, example(), wrong)
        is_loop(example(), wrong)
        is_way(example(), "a", "b", wrong)
        self.assertEqual(wrong, before)

    def test_later_changes_to_a_list_have_no_effect(self):
        jumps = [("a", "b", 1), ("b", "a", 2)]
        code = Code(("a", "b"), "a", jumps)
        jumps[0] = ("a", "b", 9)
        jumps.append(("a", "a", 3))
        self.assertEqual(code.jumps, (("a", "b", 1), ("b", "a", 2)))
        self.assertEqual(len(code), 2)
        self.assertEqual(loops(code), ((0, 1),))
        jumps.clear()
        self.assertEqual(code, Code(("a", "b"), "a", (("a", "b", 1), ("b", "a", 2))))

    def test_codes_that_are_passed_stay_as_they_are(self):
        code = example()
        loops(code)
        is_loop(code, (1, 2))
        places_of(code, (1, 2))
        is_way(code, "a", "b", (0,))
        code == single()
        len(code)
        self.assertEqual((code.places, code.door, code.jumps), (("a", "b", "c"), "a", example().jumps))

    def test_codes_share_no_jumps(self):
        one = Code(("a",), "a")
        other = one.with_jump(("a", "a", 1))
        self.assertEqual(Code(("a",), "a").jumps, ())
        self.assertEqual((one.jumps, other.jumps), ((), (("a", "a", 1),)))


class EqualCalls(Asks):

    def test_they_return_equal_results(self):
        for make in (single, example, ring, whole):
            code = make()
            self.assertEqual(make(), code)
            self.assertEqual(loops(make()), loops(code))
            self.assertEqual(loops(code), loops(code))
            for loop in loops(code):
                self.assertEqual(places_of(make(), loop), places_of(code, loop))
                self.assertIs(is_loop(code, loop), is_loop(make(), loop))
        self.assertEqual(example().priced(0, 1), example().priced(0, 1))
        self.assertEqual(example().without_jump(3), example().without_jump(3))
        self.assertEqual(example().with_jump(("a", "a", 1)), example().with_jump(("a", "a", 1)))

    def test_a_refused_call_changes_no_later_one(self):
        code = example()
        for value in every_kind():
            is_loop(code, value)
            self.refused(BadLoop, "value", places_of, code, value)
        self.assertEqual(loops(code), ((1, 2), (1, 3)))
        self.assertEqual(places_of(code, (1, 2)), ("b", "c"))


class Integers(Asks):

    def test_true_and_false_are_none(self):
        code = Code(("a",), "a", [("a", "a", 1)] * 2)
        for value in (True, False):
            self.refused_with(BadCode, "place", 0, Code, ("a",), "a", [("a", "a", value)])
            self.refused_with(BadCode, "place", 2, code.with_jump, ("a", "a", value))
            self.refused_as_is(BadNumber, "value", value, code.without_jump, value)
            self.refused_as_is(BadNumber, "value", value, code.priced, value, 1)
            self.refused_as_is(BadNumber, "value", value, code.priced, 0, value)
            self.assertIs(is_loop(code, (value,)), False)
            self.assertIs(is_way(Code(("a", "b"), "a", [("a", "b", 1)] * 2), "a", "b", (value,)), False)
            self.refused(BadLoop, "value", places_of, code, (value,))

    def test_a_thousand_digits(self):
        code = example()
        for value in (10 ** 1000 - 1, 1 - 10 ** 1000):
            self.refused_with(BadCode, "place", 0, Code, ("a",), "a", [("a", "a", value)])
            self.refused_as_is(BadNumber, "value", value, code.without_jump, value)
            self.refused_as_is(BadNumber, "value", value, code.priced, value, 1)
            self.refused_as_is(BadNumber, "value", value, code.priced, 0, value)
            self.assertIs(is_loop(code, (1, value)), False)
            self.assertIs(is_way(code, "a", "b", (value,)), False)

    def test_great_and_deep_values(self):
        for value in (nested(50), (0,) * 29999, (1, 2) * 14999, "a" * 30000, [nested(49)]):
            self.assertIs(is_loop(example(), value), False)
            self.assertIs(is_way(example(), "a", "b", value), False)
            self.refused_as_is(BadLoop, "value", value, places_of, example(), value)
            self.refused_with(BadCode, "place", "places", Code, value, value, value)


class ArgumentsByName(Asks):

    def test_each_can_be_passed_by_its_name(self):
        code = Code(jumps=[("a", "b", 5), ("b", "a", 1)], door="a", places=("a", "b"))
        self.assertEqual(code, Code(("a", "b"), "a", [("a", "b", 5), ("b", "a", 1)]))
        self.assertEqual(Code(door="a", places=("a",)), single())
        self.assertEqual(code.with_jump(jump=("a", "a", 1)).jumps[2], ("a", "a", 1))
        self.assertEqual(code.without_jump(number=1).jumps, (("a", "b", 5),))
        self.assertEqual(code.priced(price=7, number=1).jumps[1], ("b", "a", 7))
        self.assertEqual(loops(code=code), ((0, 1),))
        self.assertIs(is_loop(thing=(0, 1), code=code), True)
        self.assertEqual(places_of(loop=(0, 1), code=code), ("a", "b"))
        self.assertIs(is_way(thing=(0,), other="b", one="a", code=code), True)
        self.assertIs(is_way(thing=(0,), other="a", one="b", code=code), False)

    def test_each_can_be_passed_by_position(self):
        told = {Code.__init__: ["self", "places", "door", "jumps"], Code.with_jump: ["self", "jump"],
                Code.without_jump: ["self", "number"], Code.priced: ["self", "number", "price"],
                loops: ["code"], is_loop: ["code", "thing"], places_of: ["code", "loop"],
                is_way: ["code", "one", "other", "thing"]}
        for call, names in told.items():
            parameters = inspect.signature(call).parameters.values()
            self.assertEqual([parameter.name for parameter in parameters], names)
            for parameter in parameters:
                self.assertEqual(parameter.kind, parameter.POSITIONAL_OR_KEYWORD)
        self.assertEqual(inspect.signature(Code).parameters["jumps"].default, ())


class Operators(Asks):

    def test_between_a_code_and_anything(self):
        for name in BINARY:
            act = getattr(operator, name)
            for value in every_kind() + [example()]:
                with self.assertRaises(TypeError, msg=name):
                    act(example(), value)
                with self.assertRaises(TypeError, msg=name):
                    act(value, example())

    def test_of_a_code_alone(self):
        for act in (operator.neg, operator.pos, operator.invert, operator.abs, operator.index):
            with self.assertRaises(TypeError):
                act(example())

    def test_iterating_and_in(self):
        for code in (example(), single()):
            for act in (iter, list, tuple, set, dict, sorted, sum, enumerate, zip, reversed, any, all):
                with self.assertRaises(TypeError):
                    act(code)
            with self.assertRaises(TypeError):
                for _ in code:
                    pass
            with self.assertRaises(TypeError):
                code[0]
            for value in every_kind() + [("a", "b", 5)]:
                with self.assertRaises(TypeError):
                    value in code
                with self.assertRaises(TypeError):
                    value not in code


class Interface(Asks):

    def test_each_name_is_defined_in_its_file(self):
        self.assertEqual(Code.__module__, "loopcuts.codes")
        self.assertIs(codes.Code, Code)
        for call in (loops, is_loop, places_of, is_way):
            self.assertEqual(call.__module__, "loopcuts.loops")
            self.assertIs(getattr(loops_file, call.__name__), call)
        self.assertEqual(errors.LoopError.__module__, "loopcuts.errors")

    def test_each_method_is_defined_in_the_class_itself(self):
        for name in ("__init__", "__len__", "__eq__", "with_jump", "without_jump", "priced"):
            self.assertIn(name, vars(Code))

    def test_the_fields_are_set_on_each_code(self):
        self.assertLessEqual({"places", "door", "jumps"}, set(vars(single())))
