"""Promise 16, loopcuts/spots.py: lots of places that meet all loops, and sets of loops."""

from loopcuts.codes import Code
from loopcuts.doors import check_doors, one_door
from loopcuts.errors import BadNumber, BadPaper, SeveralDoors
from loopcuts.loops import loops
from loopcuts.spots import check_spots, least_spots, spots_cost, spots_paper
from tests.asks import Asks
from tests.made import (Numbers, crossing, few_kinds, known_codes, large_codes, nesting, otherwise, several_door_codes,
                        sharing, small_codes)
from tests.samples import Alike, every_kind, example, ring, single, whole
from tests.slow import is_set_by_words, lots_of, spots_by_words, spots_cost_by_words

WITH_PRICES = (least_spots, spots_cost, spots_paper)


def all_codes():
    return small_codes(120) + large_codes() + known_codes() + several_door_codes()


def prices_for(code, seed):
    """Return prices of the places, made up by a rule."""
    numbers = Numbers(seed)
    return tuple([(0, 20, 1, 2, 2, numbers.below(21))[numbers.below(6)] for _ in code.places])


def some_prices(code, many=4):
    every = [prices_for(code, seed) for seed in range(many)]
    return every + [(price,) * len(code.places) for price in (0, 1, 20)]


def check_by_words(code, prices, lot, thing):
    """Return what of a paper on places is wrong, or the number of both."""
    if not isinstance(lot, tuple) or not all([isinstance(place, str) for place in lot]):
        return "lot"
    if lot not in spots_by_words(code):
        return "lot"
    if not is_set_by_words(code, prices, thing):
        return "set"
    size = sum([times for _, times in thing])
    return size if spots_cost_by_words(code, prices, lot) == size else "number"


class Prices(Asks):

    def calls(self):
        return list(WITH_PRICES) + [lambda code, prices: check_spots(code, prices, None, None)]

    def test_values_that_are_nearly_prices(self):
        for value in [(1, 2), (1, 2, 3, 4), (), [1, 2, 3], (1, 2, 21), (-1, 2, 3), (1, True, 3), (False, 0, 0),
                      (1, 2, None), (1, 2, "3"), ((1, 2, 3),), ((1,), 2, 3), "123", b"\x01\x02\x03", {0: 1, 1: 2, 2: 3},
                      {1, 2, 3}, (1, 2, 10 ** 999), (1, 2, [3]), 3, None, range(3)]:
            for call in self.calls():
                self.refused_as_is(BadNumber, "value", value, call, example(), value)
                self.refused_as_is(BadNumber, "value", value, call, crossing(), value)

    def test_values_of_every_kind(self):
        for value in every_kind() + [Alike()]:
            for call in self.calls():
                self.refused_as_is(BadNumber, "value", value, call, example(), value)
                if value.__class__ is not tuple or value not in [(0,), (1,)] or isinstance(value[0], bool):
                    self.refused_as_is(BadNumber, "value", value, call, single(), value)

    def test_items_of_every_kind(self):
        for value in every_kind() + [Alike()]:
            if value.__class__ is not int or not 0 <= value <= 20:
                for prices in [(value, 1, 1), (1, value, 1), (1, 1, value), (value, value, value)]:
                    for call in self.calls():
                        self.refused_as_is(BadNumber, "value", prices, call, example(), prices)

    def test_every_price(self):
        code = Code(("a",), "a", [("a", "a", 3)])
        for price in range(21):
            self.assertEqual(spots_cost(code, (price,)), price)
            self.assertEqual(least_spots(code, (price,)), ("a",))

    def test_they_are_refused_ahead_of_several_doors(self):
        self.refused_as_is(BadNumber, "value", (1, 2, True), spots_paper, crossing(), (1, 2, True))
        self.refused(SeveralDoors, "paper", spots_paper, crossing(), (1, 2, 3))


class LeastSpots(Asks):

    def test_the_example(self):
        self.assertEqual(least_spots(example(), (1, 3, 2)), ("c",))
        self.assertEqual(least_spots(example(), (1, 2, 3)), ("b",))
        self.assertEqual(spots_cost(example(), (1, 3, 2)), 2)

    def test_the_prices_stand_in_the_order_of_the_places(self):
        code = Code(("a", "b", "c"), "c", [("c", "b", 1), ("b", "a", 1), ("a", "c", 1)])
        self.assertEqual(least_spots(code, (1, 2, 3)), ("a",))
        self.assertEqual(least_spots(code, (3, 2, 1)), ("c",))

    def test_the_prices_of_the_jumps_do_not_matter(self):
        self.assertEqual(spots_cost(example().priced(1, 0), (4, 5, 6)), 5)

    def test_no_loops(self):
        self.assertEqual((spots_cost(single(), (20,)), least_spots(ring().without_jump(6), (1,) * 7)), (0, ()))

    def test_by_the_words(self):
        for code in all_codes():
            lots = spots_by_words(code)
            for prices in some_prices(code):
                told = least_spots(code, prices)
                least = min([spots_cost_by_words(code, prices, lot) for lot in lots])
                self.assertIn(told, lots)
                self.assertEqual(spots_cost_by_words(code, prices, told), least)
                self.assertEqual(spots_cost(code, prices), least)


class SpotsPaper(Asks):

    def test_it_holds(self):
        for code in all_codes():
            for prices in some_prices(code):
                if one_door(code):
                    lot, taken = spots_paper(code, prices)
                    self.assertEqual(check_by_words(code, prices, lot, taken), spots_cost(code, prices))
                    self.assertEqual(check_spots(code, prices, lot, taken), spots_cost(code, prices))
                else:
                    told = self.refused(SeveralDoors, "paper", spots_paper, code, prices)
                    self.assertEqual(check_doors(code, told), "several")

    def test_each_jump_to_the_place_itself(self):
        code = Code(("a", "b"), "a", [("a", "b", 1), ("b", "b", 1), ("b", "b", 1), ("a", "a", 1)])
        lot, taken = spots_paper(code, (20, 3))
        self.assertEqual(lot, ("a", "b"))
        self.assertEqual(sum([times for _, times in taken]), 23)

    def test_prices_of_0(self):
        self.assertEqual(spots_paper(example(), (0, 0, 0))[1], ())
        self.assertEqual(spots_paper(single(), (0,)), ((), ()))


class CheckSpots(Asks):

    def test_the_example(self):
        self.assertEqual(check_spots(example(), (1, 3, 2), ("c",), (((1, 2), 2),)), 2)
        self.assertEqual(check_spots(example(), (1, 3, 2), ("c",), (((1, 2), 1), ((1, 3), 1))), 2)
        self.assertEqual(check_spots(single(), (20,), (), ()), 0)

    def test_the_places_bind_and_not_the_jumps(self):
        code = example().priced(1, 0)
        self.assertEqual(check_spots(code, (0, 20, 20), ("b",), (((1, 2), 20),)), 20)
        self.refused_with(BadPaper, "place", "set", check_spots, code, (0, 20, 5), ("b",), (((1, 2), 3), ((1, 3), 3)))
        self.assertEqual(check_spots(code, (0, 20, 6), ("c",), (((1, 2), 3), ((1, 3), 3))), 6)

    def test_lots(self):
        for lot in [(), ("a",), ("c", "b"), ("b", "b"), ["b"], "b", ("d",), (1,), None, (("b",),), ("b", None), (b"b",),
                    {"b"}, ("B",), ("",), ("b", "c", "d"), ("a", "c", "b"), (True,)]:
            self.refused_with(BadPaper, "place", "lot", check_spots, example(), (1, 1, 1), lot, (((1, 2), 1),))
        for lot in [("b",), ("c",), ("a", "b"), ("b", "c"), ("a", "b", "c")]:
            self.assertEqual(check_spots(example(), (0, 0, 0), lot, ()), 0)

    def test_numbers_that_are_unlike(self):
        self.refused_with(BadPaper, "place", "number", check_spots, example(), (1, 3, 2), ("b",), (((1, 2), 2),))
        self.refused_with(BadPaper, "place", "number", check_spots, example(), (1, 3, 2), ("a", "c"), (((1, 2), 2),))
        self.refused_with(BadPaper, "place", "number", check_spots, example(), (1, 3, 2), ("c",), (((1, 2), 1),))
        self.refused_with(BadPaper, "place", "number", check_spots, single(), (1,), ("a",), ())

    def test_the_first_wrong_thing_is_told(self):
        self.refused_as_is(BadNumber, "value", None, check_spots, example(), None, None, None)
        self.refused_with(BadPaper, "place", "lot", check_spots, example(), (1, 3, 2), ("a",), None)
        self.refused_with(BadPaper, "place", "set", check_spots, example(), (1, 3, 2), ("b",), None)

    def test_values_of_every_kind(self):
        prices = (1, 3, 2)
        for value in every_kind() + [Alike()]:
            self.refused_with(BadPaper, "place", "lot", check_spots, example(), prices, value, (((1, 2), 2),))
            self.refused_with(BadPaper, "place", "lot", check_spots, example(), prices, ("c", value), (((1, 2), 2),))
            if value.__class__ is not tuple or value != ():
                self.refused_with(BadPaper, "place", "set", check_spots, example(), prices, ("c",), value)
            self.refused_with(BadPaper, "place", "set", check_spots, example(), prices, ("c",), (value,))
            self.refused_with(BadPaper, "place", "set", check_spots, example(), prices, ("c",), ((value, 1),))

    def test_sets(self):
        for thing in [(((1, 3), 1), ((1, 2), 1)), (((1, 2), 1), ((1, 2), 1)), (((1, 2), True),), (((1, 2), 0),),
                      (((1, 2), 3),), [((1, 2), 2)], (((2, 1), 2),), (((1, 2), 2, 0),), (((1, 2), -1),), ((1, 2), 2)]:
            self.refused_with(BadPaper, "place", "set", check_spots, example(), (1, 3, 2), ("c",), thing)

    def test_each_part_otherwise(self):
        for code in [example(), nesting()] + small_codes(4):
            for prices in some_prices(code, 2):
                if one_door(code):
                    lot, taken = spots_paper(code, prices)
                    for other in otherwise(lot, few_kinds()):
                        self.check_like_the_words(code, prices, other, taken)
                    for other in otherwise(taken, few_kinds()):
                        self.check_like_the_words(code, prices, lot, other)

    def check_like_the_words(self, code, prices, lot, thing):
        wrong = check_by_words(code, prices, lot, thing)
        if isinstance(wrong, str):
            self.refused_with(BadPaper, "place", wrong, check_spots, code, prices, lot, thing)
        else:
            self.assertEqual(check_spots(code, prices, lot, thing), wrong)

    def test_all_lots_of_places(self):
        for code in [example(), sharing(), nesting(), crossing(), whole("abc")] + small_codes(24):
            prices = prices_for(code, 7)
            for lot in lots_of(code.places)[:40]:
                for thing in [()] + [((loop, times),) for loop in loops(code)[:3] for times in (1, 2, 20)]:
                    self.check_like_the_words(code, prices, lot, thing)
