"""Promises 4, 10 and 12, loopcuts/bench.py: codes that are led deed by deed, with undo and trials."""

from loopcuts.bench import Bench, tried
from loopcuts.codes import Code
from loopcuts.cuts import least_cost
from loopcuts.errors import BadCode, BadNumber, LoopError
from tests.asks import Asks
from tests.made import Numbers, crossing, known_codes, large_codes, price_by, several_door_codes, small_codes
from tests.samples import Alike, every_kind, example, ring, single, whole
from tests.slow import is_number, least_cost_by_words

CHAIN = (("a", "b", 1), ("b", "c", 2), ("c", "a", 3))


def chain():
    return Code(("a", "b", "c"), "a", CHAIN)


def made_deed(code, numbers):
    """Return a deed, made up by a rule, as the name of a method and what is passed; some are refused."""
    number = numbers.below(len(code.jumps) + 1) - numbers.below(9) // 8
    price = price_by(numbers) + 20 * (numbers.below(12) // 11)
    ends = [code.places[numbers.below(len(code.places))] for _ in range(2)]
    return [("jump", (ends[0], ends[1], price)), ("drop", number), ("price", number, price),
            ("jump", (ends[0], ends[1], price)), ("jump", (ends[0], "q", price))][numbers.below(21) // 5]


def jumps_after(code, deed):
    """Return the jumps of a code after a deed, or None if it is refused, by a look at the jumps alone."""
    jumps = list(code.jumps)
    if deed[0] == "jump":
        jumps.append(deed[1])
    elif not 0 <= deed[1] < len(jumps):
        return None
    elif deed[0] == "drop":
        del jumps[deed[1]]
    else:
        jumps[deed[1]] = jumps[deed[1]][:2] + deed[2:]
    try:
        return Code(code.places, code.door, jumps).jumps
    except BadCode:
        return None


def do(bench, deed):
    return getattr(bench, deed[0])(*deed[1:])


class BenchAsks(Asks):

    def is_now(self, bench, code, many):
        """Ask that a bench has an equal code and so many deeds."""
        self.assertIs(bench.code.__class__, Code)
        self.assertEqual((bench.code.places, bench.code.door, bench.code.jumps), (code.places, code.door, code.jumps))
        self.assertEqual(len(bench), many)

    def no_trace(self, error, field, worth, bench, call, *args):
        """Ask that a call is refused and that the bench is what it was."""
        code, many = bench.code, len(bench)
        if field == "value":
            self.refused_as_is(error, field, worth, call, *args)
        else:
            self.refused_with(error, field, worth, call, *args)
        self.is_now(bench, code, many)


class NewBenches(BenchAsks):

    def test_the_code_now(self):
        for code in known_codes() + several_door_codes():
            self.is_now(Bench(code), code, 0)
            self.is_now(Bench(code=code), code, 0)

    def test_worth(self):
        for code in known_codes() + several_door_codes() + small_codes(20):
            self.assertIs(Bench(code).worth().__class__, int)
            self.assertEqual(Bench(code).worth(), least_cost_by_words(code))

    def test_the_code_can_only_be_read(self):
        bench = Bench(chain())
        with self.assertRaises(AttributeError):
            bench.code = single()
        self.is_now(bench, chain(), 0)

    def test_a_code_that_was_passed_stays_as_it_is(self):
        code = chain()
        bench = Bench(code)
        bench.price(0, 20)
        bench.jump(("a", "a", 1))
        bench.drop(2)
        self.refused(BadCode, "place", bench.jump, None)
        self.assertEqual((code.places, code.door, code.jumps), (("a", "b", "c"), "a", CHAIN))
        self.assertEqual(Bench(code).code, chain())

    def test_a_list_that_the_code_was_made_of_may_change(self):
        jumps = list(CHAIN)
        bench = Bench(Code(("a", "b", "c"), "a", jumps))
        jumps.clear()
        self.is_now(bench, chain(), 0)

    def test_what_was_told_stays_as_it_is(self):
        bench = Bench(chain())
        told = bench.code
        bench.price(0, 20)
        self.assertEqual(told, chain())
        bench.undo()
        self.assertEqual(told, bench.code)

    def test_benches_share_nothing(self):
        code = chain()
        one, other = Bench(code), Bench(code)
        one.price(2, 20)
        self.is_now(other, chain(), 0)
        self.is_now(one, chain().priced(2, 20), 1)


class Deeds(BenchAsks):

    def test_each_makes_the_code_that_the_code_gives(self):
        bench = Bench(chain())
        self.assertIsNone(bench.jump(("c", "b", 4)))
        self.is_now(bench, chain().with_jump(("c", "b", 4)), 1)
        self.assertIsNone(bench.price(3, 0))
        self.is_now(bench, chain().with_jump(("c", "b", 0)), 2)
        self.assertIsNone(bench.drop(2))
        self.is_now(bench, Code(("a", "b", "c"), "a", CHAIN[:2] + (("c", "b", 0),)), 3)
        self.assertEqual(bench.worth(), 0)

    def test_a_price_as_it_is_already_is_a_deed(self):
        bench = Bench(chain())
        bench.price(0, 1)
        bench.price(0, 1)
        self.is_now(bench, chain(), 2)
        bench.undo()
        self.is_now(bench, chain(), 1)

    def test_up_to_twelve_jumps_and_none(self):
        bench = Bench(single())
        for many in range(12):
            bench.jump(("a", "a", many))
        self.is_now(bench, Code(("a",), "a", [("a", "a", price) for price in range(12)]), 12)
        self.assertEqual(bench.worth(), 66)
        self.no_trace(BadCode, "place", None, bench, bench.jump, ("a", "a", 1))
        for _ in range(12):
            bench.drop(0)
        self.is_now(bench, single(), 24)
        self.no_trace(BadNumber, "value", 0, bench, bench.drop, 0)
        self.assertEqual(bench.worth(), 0)

    def test_a_jump_without_which_a_place_is_not_come_to(self):
        bench = Bench(chain())
        for number in (0, 1):
            self.no_trace(BadCode, "place", "reach", bench, bench.drop, number)
        bench.drop(2)
        for number in (0, 1):
            self.no_trace(BadCode, "place", "reach", bench, bench.drop, number)
        self.is_now(bench, chain().without_jump(2), 1)

    def test_jumps_of_every_kind(self):
        bench = Bench(chain())
        full = Bench(whole())
        nearly = [["a", "a", 1], ("a", "a"), ("a", "a", 1, 1), ("a", "a", 21), ("a", "q", 1), ("q", "a", 1),
                  ("a", "a", True), ("a", "a", -1), ("a", ["a"], 1), ("A", "a", 1), (b"a", "a", 1), Alike(),
                  (Alike(),) * 3]
        for value in every_kind() + nearly:
            if value.__class__ is not tuple or value != ("a", "a", 1) or isinstance(value[0], Alike):
                self.no_trace(BadCode, "place", 3, bench, bench.jump, value)
                self.no_trace(BadCode, "place", 12, full, full.jump, value)
        self.no_trace(BadCode, "place", None, full, full.jump, ("a", "a", 1))

    def test_numbers_of_every_kind(self):
        bench = Bench(chain())
        for value in every_kind() + [Alike(), 3, -1, -3, (0,), "0", [0]]:
            if not is_number(value) or not 0 <= value < 3:
                self.no_trace(BadNumber, "value", value, bench, bench.drop, value)
                self.no_trace(BadNumber, "value", value, bench, bench.price, value, 1)
                self.no_trace(BadNumber, "value", value, bench, bench.price, value, value)
                self.no_trace(BadNumber, "value", value, bench, bench.price, value, None)

    def test_prices_of_every_kind(self):
        bench = Bench(chain())
        for value in every_kind() + [Alike(), 21, -1, (0,), "0", [0]]:
            if not is_number(value) or not 0 <= value <= 20:
                self.no_trace(BadNumber, "value", value, bench, bench.price, 0, value)

    def test_each_price(self):
        for price in range(21):
            bench = Bench(ring())
            bench.price(6, price)
            self.assertEqual(bench.worth(), min(price, 1))


class Undo(BenchAsks):

    def led(self):
        bench = Bench(chain())
        bench.jump(("a", "a", 1))
        bench.price(0, 20)
        bench.drop(2)
        return bench

    def test_the_last_deed(self):
        bench = self.led()
        self.assertIsNone(bench.undo())
        self.is_now(bench, chain().with_jump(("a", "a", 1)).priced(0, 20), 2)
        bench.undo(1)
        self.is_now(bench, chain().with_jump(("a", "a", 1)), 1)
        bench.undo(many=1)
        self.is_now(bench, chain(), 0)

    def test_several_deeds(self):
        for many, code in [(1, chain().with_jump(("a", "a", 1)).priced(0, 20)), (2, chain().with_jump(("a", "a", 1))),
                           (3, chain())]:
            bench = self.led()
            bench.undo(many)
            self.is_now(bench, code, 3 - many)

    def test_deeds_behind_an_undo(self):
        bench = self.led()
        bench.undo(2)
        bench.price(1, 7)
        self.is_now(bench, chain().with_jump(("a", "a", 1)).priced(1, 7), 2)
        bench.undo(2)
        self.is_now(bench, chain(), 0)

    def test_undo_where_nothing_was_done(self):
        bench = Bench(chain())
        self.refused_with(BadNumber, "value", 1, bench.undo)
        for many in (0, 1, 2, -1):
            self.no_trace(BadNumber, "value", many, bench, bench.undo, many)
        bench = self.led()
        bench.undo(3)
        self.refused_with(BadNumber, "value", 1, bench.undo)
        self.is_now(bench, chain(), 0)

    def test_values_of_every_kind(self):
        bench = self.led()
        for value in every_kind() + [Alike(), 0, 4, -1, "1", [1], (1,)]:
            if not is_number(value) or not 1 <= value <= 3:
                self.no_trace(BadNumber, "value", value, bench, bench.undo, value)
        self.no_trace(BadNumber, "value", True, bench, bench.undo, True)

    def test_what_was_refused_is_no_deed(self):
        bench = self.led()
        for call, value in [(bench.jump, None), (bench.drop, 9), (bench.undo, 9), (bench.drop, 0)]:
            self.refused_any(call, value)
        bench.undo()
        self.is_now(bench, chain().with_jump(("a", "a", 1)).priced(0, 20), 2)

    def refused_any(self, call, value):
        with self.assertRaises(LoopError):
            call(value)


class ManyDeeds(BenchAsks):

    def lead(self, code, seed, many):
        """Lead a bench by many deeds made up by a rule, and hold it against codes made anew."""
        numbers, bench, past = Numbers(seed), Bench(code), [code]
        refused = 0
        for _ in range(many):
            deed = made_deed(past[-1], numbers)
            jumps = jumps_after(past[-1], deed)
            if jumps is None:
                refused += 1
                with self.assertRaises(LoopError):
                    do(bench, deed)
            else:
                self.assertIsNone(do(bench, deed))
                past.append(Code(code.places, code.door, jumps))
            if len(past) > 1 and numbers.below(7) == 0:
                back = 1 + numbers.below(min(4, len(past) - 1))
                bench.undo(back)
                del past[-back:]
            self.is_now(bench, past[-1], len(past) - 1)
            if numbers.below(9) == 0:
                self.assertEqual(bench.worth(), least_cost(past[-1]))
        return bench, past, refused

    def test_they_are_held_against_codes_made_anew(self):
        refused = 0
        for seed, code in enumerate(known_codes() + several_door_codes() + small_codes(12) + large_codes(4)):
            bench, past, more = self.lead(code, seed, 80)
            refused += more
            self.assertEqual(bench.worth(), least_cost_by_words(past[-1]))
            while len(past) > 1:
                bench.undo()
                past.pop()
                self.is_now(bench, past[-1], len(past) - 1)
        self.assertGreater(refused, 100)

    def test_all_at_once(self):
        for seed, code in enumerate([single(), example(), crossing(), ring(2)]):
            bench, past, _ = self.lead(code, seed, 200)
            bench.undo(len(past) - 1)
            self.is_now(bench, code, 0)

    def test_thousands_of_deeds(self):
        bench = Bench(chain())
        for at in range(3000):
            bench.price(at & 1, at - at // 21 * 21)
        self.assertEqual(len(bench), 3000)
        for _ in range(1000):
            tried(bench, lambda same: same.undo(1000))
        bench.undo(2999)
        self.is_now(bench, chain().priced(0, 0), 1)


class Equality(BenchAsks):

    def same(self, one, other, told):
        self.assertIs(one == other, told)
        self.assertIs(one != other, not told)

    def test_benches_with_equal_codes(self):
        self.same(Bench(chain()), Bench(chain()), True)
        self.same(Bench(chain()), Bench(chain().priced(0, 9)), False)
        self.same(Bench(single()), Bench(single()), True)
        for one in known_codes():
            for other in known_codes():
                self.same(Bench(one), Bench(other), one == other)

    def test_benches_that_came_to_equal_codes_by_other_deeds(self):
        one, other = Bench(chain()), Bench(chain().without_jump(2))
        other.jump(("c", "a", 20))
        self.same(one, other, False)
        one.price(2, 9)
        one.price(2, 20)
        self.same(one, other, True)
        self.same(other, one, True)
        self.assertNotEqual(len(one), len(other))
        one.undo()
        self.same(one, other, False)

    def test_the_bench_itself(self):
        bench = Bench(chain())
        self.same(bench, bench, True)

    def test_other_values(self):
        bench = Bench(chain())
        for value in every_kind() + [chain(), bench.code, CHAIN, Alike()]:
            self.assertIs(bench == value, False)
            self.assertIs(bench != value, True)
            if not isinstance(value, Alike):
                self.assertIs(value == bench, False)
                self.assertIs(value != bench, True)
