"""Promise 11, loopcuts/loops.py: loops and ways."""

from itertools import permutations, product

from loopcuts.codes import Code
from loopcuts.errors import BadLoop
from loopcuts.loops import is_loop, is_way, loops, places_of
from tests.asks import Asks
from tests.samples import every_kind, example, ring, single, whole
from tests.slow import stops_of


def is_number(code, value):
    return isinstance(value, int) and not isinstance(value, bool) and 0 <= value < len(code.jumps)


def is_loop_by_words(code, numbers):
    told = stops_of(code, code.jumps[numbers[0]][0], numbers)
    return (told is not None and told[-1] == told[0] and sorted(set(told)) == sorted(told[1:])
            and all([numbers[0] <= number for number in numbers]))


def is_way_by_words(code, one, other, numbers):
    told = stops_of(code, one, numbers)
    return told is not None and told[-1] == other and sorted(set(told)) == sorted(told)


def arrangements(code):
    """Return all tuples of different numbers of jumps of the code."""
    numbers = range(len(code.jumps))
    return [row for many in range(len(code.jumps) + 1) for row in permutations(numbers, many)]


def small_codes():
    """Return codes with places a, b, c and some five of nine jumps, in two orders."""
    steps = [(one, other, 1) for one in "abc" for other in "abc"]
    made = [single(), example(), Code(("a", "b"), "b", [("b", "a", 0), ("a", "b", 0), ("b", "a", 0)]),
            Code(("a",), "a", [("a", "a", 1)] * 3)]
    for start in range(9):
        for skip in (2, 4, 5, 7):
            jumps = [("a", "b", 1), ("a", "c", 1)]
            jumps += [steps[(start + skip * at) % 9] for at in range(4)]
            made += [Code(("a", "b", "c"), "a", jumps), Code(("a", "b", "c"), "a", jumps[::-1])]
    return made


class AllLoops(Asks):

    def test_no_loops(self):
        self.assertEqual(loops(single()), ())
        self.assertEqual(loops(Code(("a", "b"), "a", [("a", "b", 1)] * 12)), ())
        self.assertEqual(loops(ring().without_jump(6)), ())

    def test_the_example(self):
        self.assertEqual(loops(example()), ((1, 2), (1, 3)))

    def test_jumps_to_the_place_itself(self):
        code = Code(("a",), "a", [("a", "a", 1)] * 12)
        self.assertEqual(loops(code), tuple([(number,) for number in range(12)]))

    def test_the_ring(self):
        self.assertEqual(loops(ring()), ((0, 1, 2, 3, 4, 5, 6),))
        turned = Code(ring().places, "a", ring().jumps[3:] + ring().jumps[:3])
        self.assertEqual(loops(turned), ((0, 1, 2, 3, 4, 5, 6),))
        behind = Code(ring().places, "a", ring().jumps[::-1])
        self.assertEqual(loops(behind), ((0, 6, 5, 4, 3, 2, 1),))

    def test_alike_jumps_make_loops_of_their_own(self):
        choices = product((0, 7), (1, 8), (2, 9), (3, 10), (4, 11))
        told = [row + (5, 6) for row in choices]
        told = [row for row in told if row[0] == 0] + [self.turned(row) for row in told if row[0] != 0]
        self.assertEqual(loops(ring(2)), tuple(sorted(told)))
        self.assertEqual(len(loops(ring(2))), 32)

    def turned(self, row):
        """Return the same loop with its least number first."""
        at = row.index(min(row))
        return row[at:] + row[:at]

    def test_loops_that_share_places(self):
        code = Code(("a", "b", "c"), "a", [("a", "b", 1), ("b", "a", 1), ("b", "c", 1), ("c", "b", 1), ("c", "a", 1)])
        self.assertEqual(loops(code), ((0, 1), (0, 2, 4), (2, 3)))

    def test_all_jumps_between_four_places(self):
        told = loops(whole())
        self.assertEqual([len([row for row in told if len(row) == many]) for many in range(6)], [0, 0, 6, 8, 6, 0])
        self.assertEqual(list(told), sorted(set(told)))

    def test_loops_do_not_hang_on_the_prices(self):
        for price in (0, 20):
            self.assertEqual(loops(example().priced(1, price)), ((1, 2), (1, 3)))

    def test_against_all_arrangements(self):
        for code in small_codes():
            told = [row for row in arrangements(code) if row and is_loop_by_words(code, row)]
            self.assertEqual(loops(code), tuple(sorted(told)))

    def test_tuples_are_told(self):
        self.assertIsInstance(loops(single()), tuple)
        for loop in loops(example()):
            self.assertIsInstance(loop, tuple)


class IsLoop(Asks):

    def test_against_all_arrangements(self):
        for code in small_codes():
            told = loops(code)
            for row in arrangements(code):
                self.assertIs(is_loop(code, row), row in told)

    def test_the_loops_of_larger_codes(self):
        for code in (whole(), ring(), ring(2)):
            for loop in loops(code):
                self.assertIs(is_loop(code, loop), True)
                self.assertIs(is_loop(code, loop[1:] + loop[:1]), False)
                self.assertIs(is_loop(code, loop[:-1]), False)
                self.assertIs(is_loop(code, loop + loop), False)
                self.assertIs(is_loop(code, loop + loop[:1]), False)
                self.assertIs(is_loop(code, list(loop)), False)

    def test_a_place_that_is_come_to_twice(self):
        code = Code(("a", "b"), "a", [("a", "b", 1), ("b", "b", 1), ("b", "a", 1), ("a", "a", 1)])
        self.assertEqual(loops(code), ((0, 2), (1,), (3,)))
        for row in [(0, 1, 2), (0, 2, 3), (0, 2, 0, 2), (1, 1), (3, 3)]:
            self.assertIs(is_loop(code, row), False)

    def test_a_place_that_is_come_to_twice_between(self):
        code = Code(("a", "b", "c"), "a", [("a", "b", 1), ("b", "c", 1), ("c", "b", 1), ("b", "a", 1)])
        self.assertIs(is_loop(code, (0, 1, 2, 3)), False)
        self.assertIs(is_loop(code, (0, 3)), True)
        self.assertIs(is_loop(code, (1, 2)), True)

    def test_values_of_every_kind(self):
        for value in every_kind():
            self.assertIs(is_loop(example(), value), False)
            self.assertIs(is_loop(single(), value), False)

    def test_true_and_false_are_no_numbers(self):
        code = Code(("a", "b"), "a", [("a", "b", 1), ("b", "a", 1)])
        self.assertIs(is_loop(code, (0, 1)), True)
        for value in [(0, True), (False, 1), (False, True)]:
            self.assertIs(is_loop(code, value), False)
        self.assertIs(is_loop(Code(("a",), "a", [("a", "a", 1)] * 2), (True,)), False)
        self.assertIs(is_loop(Code(("a",), "a", [("a", "a", 1)] * 2), (False,)), False)

    def test_items_of_every_kind(self):
        code = Code(("a",), "a", [("a", "a", 1)] * 2)
        for value in every_kind():
            self.assertIs(is_loop(code, (value,)), is_number(code, value))
            self.assertIs(is_loop(code, (0, value)), False)
            self.assertIs(is_loop(example(), (1, value)), value == 2)

    def test_numbers_that_are_counted_from_the_end(self):
        code = Code(("a",), "a", [("a", "a", 1)])
        for value in [(-1,), (1,)]:
            self.assertIs(is_loop(code, value), False)
        self.assertIs(is_loop(example(), (1, -1)), False)
        self.assertIs(is_loop(example(), (-3, 2)), False)
        self.assertIs(is_loop(example(), (1, 4)), False)


class PlacesOf(Asks):

    def test_the_example(self):
        self.assertEqual(places_of(example(), (1, 2)), ("b", "c"))
        self.assertEqual(places_of(example(), (1, 3)), ("b", "c"))

    def test_they_are_ascending(self):
        behind = Code(ring().places, "d", ring().jumps[::-1])
        self.assertEqual(places_of(behind, (0, 6, 5, 4, 3, 2, 1)), tuple("abcdefg"))
        code = Code(("a", "b", "c"), "c", [("c", "b", 1), ("b", "a", 1), ("a", "c", 1), ("b", "b", 1)])
        self.assertEqual(places_of(code, (0, 1, 2)), ("a", "b", "c"))
        self.assertEqual(places_of(code, (3,)), ("b",))

    def test_against_the_jumps(self):
        for code in small_codes() + [whole(), ring(2)]:
            for loop in loops(code):
                told = sorted(set([code.jumps[number][0] for number in loop]))
                self.assertEqual(places_of(code, loop), tuple(told))

    def test_values_of_every_kind(self):
        for value in every_kind():
            self.refused_as_is(BadLoop, "value", value, places_of, example(), value)
            self.refused_as_is(BadLoop, "value", value, places_of, single(), value)

    def test_values_that_are_nearly_loops(self):
        for value in [(), (2, 1), (1,), (0,), (0, 1), [1, 2], (1, 2, 1, 2), (1, 2, 3), (True, 2), (1, "2"),
                      ((1, 2),), (1, 4), (1, -1), (1, 2, None), (1, [2])]:
            self.refused_as_is(BadLoop, "value", value, places_of, example(), value)


class IsWay(Asks):

    def test_the_way_from_a_place_to_itself(self):
        for code in (single(), example(), ring(2)):
            for one in code.places:
                for other in code.places:
                    self.assertIs(is_way(code, one, other, ()), one == other)

    def test_a_loop_is_no_way(self):
        code = Code(("a", "b"), "a", [("a", "b", 1), ("b", "a", 1), ("a", "a", 1)])
        self.assertIs(is_way(code, "a", "a", (2,)), False)
        self.assertIs(is_way(code, "a", "a", (0, 1)), False)
        self.assertIs(is_way(code, "b", "b", (1, 0)), False)
        self.assertIs(is_way(code, "a", "b", (2, 0)), False)
        self.assertIs(is_way(code, "a", "b", (0, 1, 0)), False)
        self.assertIs(is_way(code, "a", "b", (0,)), True)
        self.assertIs(is_way(code, "b", "a", (1,)), True)

    def test_the_longest_ways(self):
        code = ring(2)
        self.assertIs(is_way(code, "a", "g", (0, 1, 2, 3, 4, 5)), True)
        self.assertIs(is_way(code, "a", "g", (7, 8, 9, 10, 11, 5)), True)
        self.assertIs(is_way(code, "c", "b", (2, 10, 4, 5, 6, 7)), True)
        self.assertIs(is_way(code, "a", "a", (0, 1, 2, 3, 4, 5, 6)), False)
        self.assertIs(is_way(code, "a", "g", (0, 1, 2, 3, 5)), False)

    def test_a_way_need_not_begin_at_the_door(self):
        self.assertIs(is_way(example(), "b", "c", (1,)), True)
        self.assertIs(is_way(example(), "c", "b", (2,)), True)
        self.assertIs(is_way(example(), "c", "b", (3,)), True)

    def test_a_place_that_is_come_to_twice_between(self):
        self.assertIs(is_way(example(), "a", "b", (0, 1, 2)), False)
        self.assertIs(is_way(example(), "a", "c", (0, 1)), True)
        self.assertIs(is_way(example(), "a", "c", (0, 1, 2, 1)), False)

    def test_against_all_arrangements(self):
        for code in small_codes():
            for row in arrangements(code):
                for one in code.places:
                    for other in code.places:
                        self.assertIs(is_way(code, one, other, row), is_way_by_words(code, one, other, row))

    def test_values_of_every_kind(self):
        for value in every_kind():
            self.assertIs(is_way(example(), "a", "c", value), False)
            self.assertIs(is_way(example(), "b", "b", value), value == ())
            self.assertIs(is_way(single(), "a", "a", value), value == ())

    def test_items_of_every_kind(self):
        code = Code(("a", "b"), "a", [("a", "b", 1), ("a", "b", 1)])
        for value in every_kind():
            self.assertIs(is_way(code, "a", "b", (value,)), is_number(code, value))
            self.assertIs(is_way(code, "a", "b", (0, value)), False)
            self.assertIs(is_way(code, "a", "a", (value,)), False)

    def test_lists_and_numbers_from_the_end(self):
        code = Code(("a", "b"), "a", [("a", "b", 1), ("a", "b", 1)])
        for value in [[0], [], [1], (-1,), (2,), ((0,),), (True,), (False,), 0, "0"]:
            self.assertIs(is_way(code, "a", "b", value), False)
        self.assertIs(is_way(code, "a", "a", []), False)
