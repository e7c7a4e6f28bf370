"""Promise 17, loopcuts/choices.py: all least cuts, jumps in all or in some, and what prices do to them."""

from loopcuts.choices import all_least, always, left_from, sometimes, steps_of
from loopcuts.codes import Code
from loopcuts.cuts import cost, least_cost
from loopcuts.errors import BadNumber
from tests.asks import Asks
from tests.made import crossing, known_codes, large_codes, nesting, several_door_codes, sharing, small_codes
from tests.samples import Alike, every_kind, example, ring, single, whole
from tests.slow import cost_by_words, cuts_by_words, is_number, least_cuts_by_words


def all_codes():
    return small_codes(120) + known_codes() + several_door_codes()


class AllLeast(Asks):

    def test_the_example(self):
        self.assertEqual(all_least(example()), ((1,), (2, 3)))
        self.assertEqual(all_least(example().priced(1, 2)), ((1,),))
        self.assertEqual(all_least(example().priced(1, 4)), ((2, 3),))

    def test_no_loops(self):
        for code in (single(), Code(("a", "b"), "a", [("a", "b", 0)] * 12), ring().without_jump(6)):
            self.assertEqual(all_least(code), ((),))

    def test_jumps_with_the_price_0(self):
        self.assertEqual(all_least(example().priced(0, 0)), ((1,), (2, 3)))
        self.assertEqual(all_least(example().priced(1, 0)), ((1,),))
        self.assertEqual(all_least(example().priced(1, 0).priced(2, 0)), ((1,),))
        code = example().priced(1, 0).priced(2, 0).priced(3, 0)
        self.assertEqual(all_least(code), ((1,), (2, 3)))
        self.assertEqual(all_least(example().priced(2, 0).priced(1, 2)), ((1,), (2, 3)))

    def test_one_place(self):
        for price in (0, 20):
            code = Code(("a",), "a", [("a", "a", price)] * 12)
            self.assertEqual(all_least(code), (tuple(range(12)),))

    def test_the_ring(self):
        self.assertEqual(all_least(ring()), ((0,), (1,), (2,), (3,), (4,), (5,), (6,)))
        self.assertEqual(all_least(ring(2)), ((5,), (6,)))

    def test_many_least_cuts(self):
        jumps = [("a", "b", 1), ("b", "a", 1), ("a", "c", 2), ("c", "a", 2), ("a", "d", 0), ("d", "a", 0)]
        code = Code(("a", "b", "c", "d"), "a", jumps)
        told = [(one, two, three) for one in (0, 1) for two in (2, 3) for three in (4, 5)]
        self.assertEqual(all_least(code), tuple(told))

    def test_by_the_words(self):
        for code in all_codes() + large_codes():
            self.assertEqual(all_least(code), least_cuts_by_words(code))

    def test_they_are_cuts_of_the_least_cost(self):
        for code in large_codes(40):
            for cut in all_least(code):
                self.assertEqual(cost(code, cut), least_cost(code))


class AlwaysAndSometimes(Asks):

    def test_the_example(self):
        self.assertEqual((always(example()), sometimes(example())), ((), (1, 2, 3)))
        code = example().priced(1, 2)
        self.assertEqual((always(code), sometimes(code)), ((1,), (1,)))

    def test_no_loops(self):
        for code in (single(), ring().without_jump(6)):
            self.assertEqual((always(code), sometimes(code)), ((), ()))

    def test_jumps_to_the_place_itself(self):
        code = Code(("a",), "a", [("a", "a", 0), ("a", "a", 20)])
        self.assertEqual((always(code), sometimes(code)), ((0, 1), (0, 1)))

    def test_by_the_words(self):
        for code in all_codes():
            cuts = [set(cut) for cut in least_cuts_by_words(code)]
            self.assertEqual(always(code), tuple(sorted(set(range(len(code.jumps))).intersection(*cuts))))
            self.assertEqual(sometimes(code), tuple(sorted(set().union(*cuts))))


class LeftFrom(Asks):

    def test_the_example(self):
        self.assertEqual([left_from(example(), number) for number in range(4)], [0, 4, 2, 3])

    def test_jumps_to_the_place_itself(self):
        code = Code(("a", "b"), "a", [("a", "a", 0), ("a", "b", 20)])
        self.assertIsNone(left_from(code, 0))
        self.assertEqual(left_from(code, 1), 0)

    def test_the_bounds(self):
        code = Code(("a", "b"), "a", [("a", "b", 3), ("b", "a", 20)])
        self.assertIsNone(left_from(code, 0))
        self.assertEqual(left_from(code.priced(1, 19), 0), 20)
        self.assertEqual(left_from(code.priced(1, 18), 0), 19)
        self.assertEqual(left_from(code.priced(1, 0), 0), 1)

    def test_its_own_price_does_not_matter(self):
        for price in range(21):
            self.assertEqual(left_from(example().priced(1, price), 1), 4)
            self.assertEqual(left_from(sharing().priced(0, price), 0), left_from(sharing(), 0))

    def test_by_the_words(self):
        for code in small_codes(30) + [example(), nesting(), crossing(), whole("abc")]:
            for number in range(len(code.jumps)):
                every = [least_cuts_by_words(code.priced(number, price)) for price in range(21)]
                prices = [price for price, cuts in enumerate(every) if any([number in cut for cut in cuts])]
                self.assertEqual(prices, list(range(len(prices))))
                self.assertEqual(left_from(code, number), len(prices) if len(prices) < 21 else None)

    def test_large_codes(self):
        for code in large_codes(4):
            for number in range(12):
                told = left_from(code, number)
                if told is None:
                    self.assertIn(number, sometimes(code.priced(number, 20)))
                else:
                    self.assertNotIn(number, sometimes(code.priced(number, told)))
                    self.assertTrue(told == 0 or number in sometimes(code.priced(number, told - 1)))


class StepsOf(Asks):

    def test_the_example(self):
        self.assertEqual(steps_of(example(), 1), (0, 1, 2) + (3,) * 18)
        self.assertEqual(steps_of(example(), 0), (3,) * 21)
        self.assertEqual(steps_of(example(), 2), (2,) + (3,) * 20)

    def test_jumps_to_the_place_itself(self):
        code = Code(("a", "b"), "a", [("a", "a", 7), ("a", "b", 20)])
        self.assertEqual(steps_of(code, 0), tuple(range(21)))
        self.assertEqual(steps_of(code, 1), (7,) * 21)

    def test_by_the_words(self):
        for code in small_codes(30) + known_codes() + several_door_codes():
            cuts = cuts_by_words(code)
            for number in range(len(code.jumps)):
                steps = steps_of(code, number)
                self.assertEqual((steps.__class__, len(steps)), (tuple, 21))
                for price in (0, 1, 7, 19, 20):
                    other = code.priced(number, price)
                    self.assertEqual(steps[price], min([cost_by_words(other, cut) for cut in cuts]))

    def test_large_codes(self):
        for code in large_codes(2):
            for number in (0, 5, 11):
                told = [least_cost(code.priced(number, price)) for price in range(21)]
                self.assertEqual(steps_of(code, number), tuple(told))


class Numbers(Asks):

    def test_values_of_every_kind(self):
        for call in (left_from, steps_of):
            for value in every_kind() + [Alike(), -1, 4, 12, 10 ** 999, [0], (0,), "0"]:
                if not is_number(value) or not 0 <= value < 4:
                    self.refused_as_is(BadNumber, "value", value, call, example(), value)
                self.refused_as_is(BadNumber, "value", value, call, single(), value)

    def test_true_and_false(self):
        for call in (left_from, steps_of):
            for value in (True, False):
                self.refused_as_is(BadNumber, "value", value, call, example(), value)

    def test_each_number_is_taken(self):
        code = Code(("a",), "a", [("a", "a", 20)] * 12)
        for number in range(12):
            self.assertIsNone(left_from(code, number))
            self.assertEqual(steps_of(code, number), tuple(range(220, 241)))
        for number in (-1, 12):
            self.refused_as_is(BadNumber, "value", number, left_from, code, number)
            self.refused_as_is(BadNumber, "value", number, steps_of, code, number)
