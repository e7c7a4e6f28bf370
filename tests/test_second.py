"""Promises 12, 13 and 15, loopcuts/second.py: the least cost and the doors, told a second way."""

from loopcuts.codes import Code
from loopcuts.cuts import least_cost
from loopcuts.doors import one_door
from loopcuts.second import least_cost_too, one_door_too
from tests.asks import Asks
from tests.made import (chained_code, crossing, known_codes, large_codes, made_code, nesting, several_door_codes,
                        sharing, small_codes)
from tests.samples import example, ring, single, whole
from tests.slow import least_cost_by_words, one_door_by_words


def all_codes():
    made = [chained_code(seed, 7) for seed in range(4)] + crossed_codes()[::4]
    return small_codes(120) + known_codes() + several_door_codes() + made


def crossed_codes():
    """Return codes of which most have a loop without a door."""
    return [made_code(seed, 3 + seed % 5, 9 + seed % 4, 0) for seed in range(160)]


class LeastCost(Asks):

    def test_the_example(self):
        self.assertEqual(least_cost_too(example()), 3)
        self.assertEqual(least_cost_too(example().priced(1, 2)), 2)
        self.assertEqual(least_cost_too(example().priced(1, 20)), 3)

    def test_no_loops(self):
        for code in (single(), ring().without_jump(6), Code(("a", "b"), "a", [("a", "b", 20)] * 12)):
            self.assertEqual(least_cost_too(code), 0)

    def test_jumps_to_the_place_itself(self):
        for price in range(21):
            self.assertEqual(least_cost_too(Code(("a",), "a", [("a", "a", price)] * 12)), 12 * price)
        code = Code(("a", "b"), "b", [("b", "b", 4), ("b", "a", 20), ("a", "a", 7)])
        self.assertEqual(least_cost_too(code), 11)

    def test_seven_places_and_twelve_jumps(self):
        self.assertEqual((least_cost_too(ring()), least_cost_too(ring(2)), least_cost_too(ring(2).priced(6, 7))),
                         (1, 1, 1))
        self.assertEqual(least_cost_too(whole()), 6)
        self.assertEqual(least_cost_too(nesting()), least_cost_by_words(nesting()))

    def test_the_door_does_not_matter(self):
        for code in (ring(), sharing(), whole()):
            told = {least_cost_too(Code(code.places, door, code.jumps)) for door in code.places}
            self.assertEqual(told, {least_cost(code)})

    def test_by_the_words(self):
        for code in all_codes():
            self.assertEqual(least_cost_too(code), least_cost_by_words(code))

    def test_like_the_first_way(self):
        for code in small_codes(300) + large_codes(60):
            told = least_cost_too(code)
            self.assertIs(told.__class__, int)
            self.assertEqual(told, least_cost(code))


class OneDoor(Asks):

    def test_the_example(self):
        self.assertIs(one_door_too(example()), True)
        self.assertIs(one_door_too(crossing()), False)

    def test_no_loops(self):
        for code in (single(), ring().without_jump(6), Code(("a", "b", "c"), "a", [("a", "b", 1), ("a", "c", 1)])):
            self.assertIs(one_door_too(code), True)

    def test_loops_that_are_come_to_at_one_place(self):
        for code in (ring(), ring(2), nesting(), sharing(), Code(("a",), "a", [("a", "a", 0)] * 12)):
            self.assertIs(one_door_too(code), True)

    def test_loops_that_are_come_to_at_two_places(self):
        for code in several_door_codes():
            self.assertIs(one_door_too(code), False)

    def test_the_door_matters(self):
        jumps = [("a", "b", 1), ("a", "c", 1), ("b", "c", 1), ("c", "b", 1), ("b", "a", 1)]
        told = [one_door_too(Code(("a", "b", "c"), door, jumps)) for door in "abc"]
        self.assertEqual(told, [False, True, True])

    def test_prices_do_not_matter(self):
        for code in (crossing(), example()):
            for price in (0, 20):
                for number in range(len(code)):
                    self.assertIs(one_door_too(code.priced(number, price)), one_door(code))

    def test_by_the_words(self):
        for code in all_codes():
            self.assertIs(one_door_too(code), one_door_by_words(code))

    def test_like_the_first_way(self):
        codes = small_codes(300) + large_codes(60) + crossed_codes()
        for code in codes:
            self.assertIs(one_door_too(code), one_door(code))
        # Both answers are asked for often.
        self.assertGreater(len([code for code in codes if one_door(code)]), 100)
        self.assertGreater(len([code for code in codes if not one_door(code)]), 60)
