"""Promise 17, loopcuts/choices.py: held against a slow look at all lots, and how many steps the calls take."""

import copy
import sys

from loopcuts.choices import all_least, always, left_from, sometimes, steps_of
from loopcuts.codes import Code
from loopcuts.doors import one_door
from loopcuts.errors import BadNumber
from tests.asks import Asks
from tests.made import chained_code, crossing, large_codes, made_code, nesting, sharing, small_codes
from tests.samples import example, ring, single, whole
from tests.slow import cost_by_words, cuts_by_words

NO_NUMBERS = (None, True, False, -1, 12, "0", (0,), [0], 10 ** 999)


def twelve_at_one_place(price=20):
    return Code(("a",), "a", [("a", "a", price)] * 12)


def rings(*sizes):
    """Return a code of rings of so many jumps each, all of which begin and end at the door."""
    places = iter("bcdefg")
    jumps = []
    for size in sizes:
        stops = ["a"] + [next(places) for _ in range(size - 1)] + ["a"]
        jumps += [(one, other, 1 + len(jumps) // 2) for one, other in zip(stops, stops[1:])]
    return Code(tuple(sorted({begin for begin, _, _ in jumps})), "a", jumps)


def round_codes():
    """Return small codes of many sorts."""
    free = Code(tuple("abcde"), "a", [(one, other, 0) for one, other in ("ab", "bc", "cd", "de", "ea")])
    return [rings(2, 2), rings(3, 2), rings(1, 3), rings(2, 2, 2), rings(3, 3, 2), free, crossing(), example(),
            nesting(), crossing().priced(2, 0), ring().without_jump(6), Code(("a",), "a", [("a", "a", 3)])]


def twelve_jumps():
    """Return codes of twelve jumps: with many loops, many cuts, alike jumps, and ones made up by a rule."""
    star = [("a", place, 2) for place in "bcdefg"] + [(place, "a", 1 + at) for at, place in enumerate("bcdefg")]
    tripled = [(one, other, 3 + at) for at in range(3) for one, other in ("ab", "bc", "cd", "da")]
    crossed = [made_code(seed, 3 + seed % 5, 12, 0) for seed in range(6)]
    return [twelve_at_one_place(), twelve_at_one_place(0), Code(tuple("abcdefg"), "a", star),
            Code(tuple("abcd"), "a", tripled), whole(), ring(2), sharing(), chained_code(1, 7)] + crossed


def is_narrow(cuts, cut):
    return not any([cut[:at] + cut[at + 1:] in cuts for at in range(len(cut))])


class Held(Asks):

    def hold(self, code, numbers, prices):
        """Hold what the five functions tell against a look at all lots; which are cuts does not hang on prices."""
        cuts = {cut: True for cut in cuts_by_words(code)}
        narrow = [cut for cut in cuts if is_narrow(cuts, cut)]
        least = min([cost_by_words(code, cut) for cut in cuts])
        told = [cut for cut in narrow if cost_by_words(code, cut) == least]
        self.assertEqual(all_least(code), tuple(told))
        each = range(len(code.jumps))
        self.assertEqual(always(code), tuple([number for number in each if all([number in cut for cut in told])]))
        self.assertEqual(sometimes(code), tuple([number for number in each if any([number in cut for cut in told])]))
        for number in numbers:
            bound = left_from(code, number)
            steps = steps_of(code, number)
            self.assertEqual(len(steps), 21)
            for price in prices:
                other = code.priced(number, price)
                least = min([cost_by_words(other, cut) for cut in cuts])
                having = [cut for cut in narrow if number in cut and cost_by_words(other, cut) == least]
                self.assertEqual(steps[price], least)
                self.assertIs(having != [], bound is None or price < bound)

    def test_small_codes(self):
        codes = [made_code(300 + seed, 2 + seed % 4, 4 + seed % 5, 40 * (seed % 3)) for seed in range(120)]
        for code in codes + [example(), single(), crossing(), nesting(), whole("abc")]:
            self.hold(code, range(len(code.jumps)), range(21))
        self.assertGreater(len([code for code in codes if not one_door(code)]), 5)

    def test_codes_of_the_rounds(self):
        for code in round_codes():
            self.hold(code, range(len(code.jumps)), (0, 1, 2, 3, 4, 9, 20))

    def test_codes_of_twelve_jumps(self):
        codes = twelve_jumps() + large_codes()
        for code in codes:
            self.assertEqual(len(code), 12)
            self.hold(code, (0, 3, 5, 8, 11), (0, 1, 2, 5, 20))
        self.assertGreater(len([code for code in codes if not one_door(code)]), 3)
        self.assertGreater(len([code for code in codes if one_door(code)]), 3)

    def test_twelve_jumps_from_a_place_to_itself(self):
        code = twelve_at_one_place()
        lot = (0, 1, 2, 3, 4, 5, 6, 7, 8, 9, 10, 11)
        self.assertEqual((all_least(code), always(code), sometimes(code)), ((lot,), lot, lot))
        self.hold(code, range(12), (0, 1, 20))

    def test_alike_jumps_with_other_prices(self):
        code = Code(("a", "b"), "a", [("a", "b", 3), ("b", "a", 0), ("a", "b", 2), ("b", "a", 5), ("a", "b", 0)])
        self.assertEqual(all_least(code), ((0, 2, 4), (1, 3)))
        self.assertEqual([left_from(code, number) for number in range(5)], [4, 1, 3, 6, 1])
        self.hold(code, range(5), range(21))


class StayAndAgain(Asks):

    def ask(self, code):
        told = [all_least(code), always(code), sometimes(code)]
        return told + [call(code, number) for number in range(len(code)) for call in (left_from, steps_of)]

    def test_codes_stay_as_they_are_and_equal_calls_tell_equal_results(self):
        codes = round_codes() + twelve_jumps() + small_codes(20)
        before = [copy.deepcopy(vars(code)) for code in codes]
        first = [self.ask(code) for code in codes]
        for code in codes:
            for value in NO_NUMBERS:
                self.refused_as_is(BadNumber, "value", value, left_from, code, value)
                self.refused_as_is(BadNumber, "value", value, steps_of, code, value)
        self.assertEqual([self.ask(code) for code in codes[::-1]], first[::-1])
        self.assertEqual([vars(code) for code in codes], before)
        for code, told in zip(codes, first):
            self.assertEqual(self.ask(Code(code.places, code.door, list(code.jumps))), told)

    def test_values_stay_as_they_are(self):
        for make in (lambda: [0, [1]], lambda: {0: [1]}, lambda: ([0],)):
            value = make()
            self.refused_as_is(BadNumber, "value", value, left_from, example(), value)
            self.refused_as_is(BadNumber, "value", value, steps_of, example(), value)
            self.assertEqual(value, make())


class Steps(Asks):
    """How long a call takes, told by the steps that Python takes: no clock tells the same each time."""

    def steps(self, call, *args):
        """Return how many steps the call takes, once the trace is known to be on."""
        return [self.traced(call, *args) for _ in range(2)][1]

    def traced(self, call, *args):
        count = 0

        def trace(frame, event, arg):
            nonlocal count
            frame.f_trace_opcodes = True
            count += event == "opcode"
            return trace

        before = sys.gettrace()
        sys.settrace(trace)
        try:
            call(*args)
        finally:
            sys.settrace(before)
        return count

    def steps_of_each(self, code):
        told = [self.steps(call, code) for call in (all_least, always, sometimes)]
        return told + [self.steps(call, code, number) for call in (left_from, steps_of) for number in range(len(code))]

    def test_twelve_jumps_from_a_place_to_itself(self):
        # A look at all lots of jumps took about a million steps.
        for told in self.steps_of_each(twelve_at_one_place()):
            self.assertGreater(told, 100)
            self.assertLess(told, 5000)

    def test_codes_of_the_rounds(self):
        for code in round_codes():
            # left_from and steps_of took some 25,000 steps or more, all_least and the like some 3,000 or more.
            for told in self.steps_of_each(code):
                self.assertGreater(told, 100)
                self.assertLess(told, 5000)

    def test_codes_of_twelve_jumps(self):
        for code in twelve_jumps() + large_codes(6):
            for call in (all_least, always, sometimes):
                self.assertLess(self.steps(call, code), 200000)
            for call in (left_from, steps_of):
                self.assertLess(self.steps(call, code, 0), 200000)

    def test_values_that_are_no_numbers(self):
        for code in round_codes() + twelve_jumps():
            for call in (left_from, steps_of):
                self.assertLess(self.steps(self.refused, BadNumber, "value", call, code, None), 2000)
