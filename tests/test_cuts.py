"""Promises 12 and 15, loopcuts/cuts.py: lots of jumps, cuts and their costs."""

from loopcuts.codes import Code
from loopcuts.cuts import cost, is_cut, least_cost, least_cut, least_within
from loopcuts.errors import BadLot, NoCut
from tests.asks import Asks
from tests.made import known_codes, large_codes, nesting, several_door_codes, sharing, small_codes
from tests.samples import Alike, every_kind, example, ring, single, whole
from tests.slow import (cost_by_words, cuts_by_words, is_cut_by_words, is_number, least_cost_by_words, loops_by_words,
                        lots_by_words)

WITH_LOT = (is_cut, cost, least_within)
NEARLY_LOTS = [(2, 1), (1, 1), (0, 0), (1, 2, 2), (0, 2, 1), (4,), (-1,), (0, 4), (-1, 0), (0, 1, 2, 3, 4), [1], [],
               (True,), (0, True), (False, 1), (False,), ("1",), (None,), ((1,),), (1, None), (1, [2]), 1, "1", {1: 1},
               {1}, (1, 10 ** 999), range(2), (b"",), (0, 1, 2, 2)]


def some_codes():
    return small_codes() + known_codes() + several_door_codes()


class Lots(Asks):

    def test_values_that_are_nearly_lots(self):
        for call in WITH_LOT:
            for value in NEARLY_LOTS:
                self.refused_as_is(BadLot, "value", value, call, example(), value)

    def test_values_of_every_kind(self):
        for call in WITH_LOT:
            for value in every_kind():
                if value != () and (value not in [(0,), (1,)] or isinstance(value[0], bool)):
                    self.refused_as_is(BadLot, "value", value, call, example(), value)
                if value != ():
                    self.refused_as_is(BadLot, "value", value, call, single(), value)

    def test_items_of_every_kind(self):
        code = Code(("a",), "a", [("a", "a", 1)] * 12)
        for call in WITH_LOT:
            for value in every_kind() + [Alike()]:
                for lot in ((value,), (3, value)):
                    if not is_number(value) or not (0, 4)[len(lot) - 1] <= value < 12:
                        self.refused_as_is(BadLot, "value", lot, call, code, lot)

    def test_the_value_itself_is_told(self):
        for call in WITH_LOT:
            for value in ([0, 1], (1, [0]), Alike()):
                self.refused_as_is(BadLot, "value", value, call, example(), value)

    def test_every_lot_is_taken(self):
        for lot in lots_by_words(example()):
            self.assertIn(is_cut(example(), lot), (True, False))
        self.assertEqual(cost(Code(("a",), "a", [("a", "a", 20)] * 12), tuple(range(12))), 240)


class IsCut(Asks):

    def test_the_example(self):
        told = [lot for lot in lots_by_words(example()) if is_cut(example(), lot)]
        self.assertEqual(told, [lot for lot in lots_by_words(example()) if 1 in lot or {2, 3} <= set(lot)])

    def test_no_loops(self):
        self.assertIs(is_cut(single(), ()), True)
        code = Code(("a", "b"), "a", [("a", "b", 1)] * 12)
        for lot in [(), (0,), (11,), tuple(range(12))]:
            self.assertIs(is_cut(code, lot), True)

    def test_jumps_to_the_place_itself(self):
        code = Code(("a",), "a", [("a", "a", 0)] * 12)
        self.assertIs(is_cut(code, tuple(range(12))), True)
        for number in range(12):
            self.assertIs(is_cut(code, tuple([other for other in range(12) if other != number])), False)

    def test_by_the_words(self):
        for code in some_codes():
            if len(code) <= 8:
                for lot in lots_by_words(code):
                    self.assertIs(is_cut(code, lot), is_cut_by_words(code, lot))

    def test_greater_codes_by_the_words(self):
        for code in large_codes() + [ring(2), whole(), sharing()]:
            for lot in lots_by_words(code)[::37]:
                self.assertIs(is_cut(code, lot), is_cut_by_words(code, lot))


class Cost(Asks):

    def test_the_example(self):
        self.assertEqual([cost(example(), lot) for lot in [(), (0,), (1,), (2, 3), (0, 1, 2, 3)]], [0, 5, 3, 3, 11])

    def test_lots_that_are_no_cuts(self):
        self.assertEqual(cost(example(), (0, 2)), 6)

    def test_the_bounds(self):
        self.assertEqual(cost(single(), ()), 0)
        self.assertEqual(cost(Code(("a",), "a", [("a", "a", 0)] * 12), tuple(range(12))), 0)

    def test_by_the_words(self):
        for code in some_codes():
            for lot in lots_by_words(code)[::5]:
                self.assertEqual(cost(code, lot), cost_by_words(code, lot))


class LeastCut(Asks):

    def test_the_example(self):
        self.assertEqual(least_cost(example()), 3)
        self.assertIn(least_cut(example()), [(1,), (2, 3)])

    def test_no_loops(self):
        self.assertEqual((least_cost(single()), cost(single(), least_cut(single()))), (0, 0))

    def test_one_place(self):
        for price in (0, 1, 20):
            code = Code(("a",), "a", [("a", "a", price)] * 12)
            self.assertEqual(least_cost(code), 12 * price)
            self.assertEqual(least_cut(code), tuple(range(12)))

    def test_the_ring(self):
        self.assertEqual(least_cost(ring()), 1)
        self.assertEqual(least_cost(sharing()), 2)
        self.assertEqual(least_cost(sharing().priced(0, 20)), 5)

    def test_by_the_words(self):
        for code in some_codes() + large_codes():
            cuts = cuts_by_words(code)
            told = least_cut(code)
            self.assertIn(told, cuts)
            self.assertEqual(least_cost(code), least_cost_by_words(code))
            self.assertEqual(cost_by_words(code, told), least_cost(code))

    def test_every_price(self):
        for price in range(21):
            self.assertEqual(least_cost(example().priced(1, price)), min(price, 3))
            self.assertEqual(least_cost(nesting().priced(2, price)), min(price, 7))


class LeastWithin(Asks):

    def test_the_example(self):
        self.assertEqual(least_within(example(), (2, 3)), (2, 3))
        self.assertEqual(least_within(example(), (1, 2)), (1,))
        self.assertEqual(cost(example(), least_within(example(), (0, 1, 2, 3))), 3)

    def test_no_cut(self):
        self.refused_with(NoCut, "loop", (1, 3), least_within, example(), (0, 2))
        self.refused_with(NoCut, "loop", (1, 2), least_within, example(), (3,))
        self.assertIn(self.refused(NoCut, "loop", least_within, example(), ()), [(1, 2), (1, 3)])

    def test_no_loops(self):
        self.assertEqual(least_within(single(), ()), ())
        self.assertEqual(cost(ring().without_jump(6), least_within(ring().without_jump(6), ())), 0)

    def test_by_the_words(self):
        for code in some_codes():
            if len(code) <= 8:
                cuts = cuts_by_words(code)
                for lot in lots_by_words(code):
                    self.check_within(code, lot, cuts)

    def test_greater_codes_by_the_words(self):
        for code in large_codes() + [ring(2), whole()]:
            cuts = cuts_by_words(code)
            for lot in lots_by_words(code)[::97] + [tuple(range(12))]:
                self.check_within(code, lot, cuts)

    def check_within(self, code, lot, cuts):
        within = [cut for cut in cuts if set(cut) <= set(lot)]
        if within:
            told = least_within(code, lot)
            self.assertIn(told, within)
            self.assertEqual(cost(code, told), min([cost_by_words(code, cut) for cut in within]))
        else:
            loop = self.refused(NoCut, "loop", least_within, code, lot)
            self.assertIn(loop, loops_by_words(code))
            self.assertEqual(set(loop) & set(lot), set())

    def test_a_bad_lot_is_told_first(self):
        for value in [(0, 0), (0, 4), [0], (True,)]:
            self.refused_as_is(BadLot, "value", value, least_within, example(), value)
