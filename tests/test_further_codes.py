"""Promise 10, loopcuts/codes.py: the codes that a code gives by its methods."""

from loopcuts.codes import Code
from loopcuts.errors import BadCode, BadNumber
from tests.asks import Asks
from tests.samples import every_kind, example, ring, single, whole

JUMPS = (("a", "b", 1), ("b", "a", 2), ("a", "b", 3), ("b", "b", 4))


def code_of_two():
    return Code(("a", "b"), "a", JUMPS)


def is_number(value, many):
    return isinstance(value, int) and not isinstance(value, bool) and 0 <= value < many


class WithJump(Asks):

    def test_a_jump_at_the_end(self):
        for jump in [("b", "a", 0), ("a", "a", 20), ("b", "b", 4), ("a", "b", 1)]:
            self.assertEqual(code_of_two().with_jump(jump), Code(("a", "b"), "a", JUMPS + (jump,)))

    def test_up_to_twelve_jumps(self):
        code = single()
        for many in range(12):
            self.assertEqual(len(code), many)
            code = code.with_jump(("a", "a", many))
        self.assertEqual(code.jumps, tuple([("a", "a", price) for price in range(12)]))
        self.assertEqual(code.door, "a")
        self.assertEqual(code.places, ("a",))

    def test_values_of_every_kind(self):
        for value in every_kind():
            if value != ("a", "a", 1):
                self.refused_with(BadCode, "place", 4, code_of_two().with_jump, value)
                self.refused_with(BadCode, "place", 0, single().with_jump, value)
                self.refused_with(BadCode, "place", 12, whole().with_jump, value)

    def test_parts_that_are_wrong(self):
        for jump in [("a", "c", 1), ("c", "a", 1), ("a", "b", -1), ("a", "b", 21), ("a", "b", True),
                     ("a", "b"), ("a", "b", 1, 1), ["a", "b", 1], ("a", None, 1), ([], "a", 1)]:
            self.refused_with(BadCode, "place", 4, code_of_two().with_jump, jump)

    def test_a_thirteenth_jump(self):
        for code in (whole(), ring(2)):
            self.assertEqual(len(code), 12)
            self.refused_with(BadCode, "place", None, code.with_jump, ("a", "a", 1))
            self.refused_with(BadCode, "place", 12, code.with_jump, ("a", "z", 1))
        self.assertEqual(len(ring()), 7)


class WithoutJump(Asks):

    def test_each_jump(self):
        code = ring(2)
        for number in (0, 1, 2, 3, 4, 7, 8, 9, 10, 11, 6):
            left = code.jumps[:number] + code.jumps[number + 1:]
            self.assertEqual(code.without_jump(number), Code(code.places, "a", left))

    def test_down_to_no_jump(self):
        code = Code(("a",), "a", [("a", "a", 1), ("a", "a", 2)])
        self.assertEqual(code.without_jump(0).jumps, (("a", "a", 2),))
        self.assertEqual(code.without_jump(1).jumps, (("a", "a", 1),))
        self.assertEqual(code.without_jump(1).without_jump(0), single())

    def test_one_of_alike_jumps(self):
        code = Code(("a", "b"), "a", [("a", "b", 1), ("b", "a", 1), ("a", "b", 1)])
        self.assertEqual(code.without_jump(0).jumps, (("b", "a", 1), ("a", "b", 1)))
        self.assertEqual(code.without_jump(2).jumps, (("a", "b", 1), ("b", "a", 1)))

    def test_values_of_every_kind(self):
        for value in every_kind():
            if not is_number(value, 4):
                self.refused_as_is(BadNumber, "value", value, code_of_two().without_jump, value)
            self.refused_as_is(BadNumber, "value", value, single().without_jump, value)

    def test_numbers_out_of_bounds(self):
        for value in (-1, -4, 4, 5, 12, 10 ** 999, True, False, "0", (0,)):
            self.refused_as_is(BadNumber, "value", value, code_of_two().without_jump, value)

    def test_a_jump_that_is_needed_to_reach_a_place(self):
        for number in (5, 6):
            self.assertEqual(ring().jumps[number][0], "fg"[number - 5])
        for number in range(6):
            self.refused_with(BadCode, "place", "reach", ring().without_jump, number)
        self.assertEqual(len(ring().without_jump(6)), 6)
        self.refused_with(BadCode, "place", "reach", example().without_jump, 0)
        self.refused_with(BadCode, "place", "reach", Code(("a", "b"), "a", [("a", "b", 1)]).without_jump, 0)


class Priced(Asks):

    def test_each_jump_and_each_price(self):
        for number in range(4):
            begin, end, _ = JUMPS[number]
            for price in range(21):
                jumps = JUMPS[:number] + ((begin, end, price),) + JUMPS[number + 1:]
                self.assertEqual(code_of_two().priced(number, price), Code(("a", "b"), "a", jumps))

    def test_the_same_price(self):
        for number in range(4):
            self.assertEqual(code_of_two().priced(number, JUMPS[number][2]), code_of_two())

    def test_numbers_of_every_kind(self):
        for value in every_kind():
            if not is_number(value, 4):
                for price in (0, 20, 21, None):
                    self.refused_as_is(BadNumber, "value", value, code_of_two().priced, value, price)
            self.refused_as_is(BadNumber, "value", value, single().priced, value, 1)

    def test_prices_of_every_kind(self):
        for value in every_kind():
            if not is_number(value, 21):
                self.refused_as_is(BadNumber, "value", value, code_of_two().priced, 0, value)
                self.refused_as_is(BadNumber, "value", value, code_of_two().priced, 3, value)

    def test_numbers_and_prices_out_of_bounds(self):
        for value in (-1, 4, 12, True, False):
            self.refused_as_is(BadNumber, "value", value, code_of_two().priced, value, 0)
        for value in (-1, 21, True, False, 10 ** 999):
            self.refused_as_is(BadNumber, "value", value, code_of_two().priced, 0, value)

    def test_the_number_is_refused_first(self):
        self.refused_as_is(BadNumber, "value", 4, code_of_two().priced, 4, 21)
        self.refused_as_is(BadNumber, "value", True, code_of_two().priced, True, False)


class TheCodeItself(Asks):

    def test_it_stays_as_it_is(self):
        code = code_of_two()
        code.with_jump(("a", "a", 1))
        code.without_jump(3)
        code.priced(0, 9)
        self.refused(BadCode, "place", code.with_jump, None)
        self.refused(BadNumber, "value", code.without_jump, 4)
        self.refused(BadNumber, "value", code.priced, 0, 21)
        self.assertEqual((code.places, code.door, code.jumps), (("a", "b"), "a", JUMPS))

    def test_the_door_stays(self):
        code = Code(("a", "b"), "b", JUMPS)
        for other in (code.with_jump(("a", "a", 1)), code.without_jump(0), code.priced(0, 9)):
            self.assertEqual(other.door, "b")
            self.assertEqual(other.places, ("a", "b"))
