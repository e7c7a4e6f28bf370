"""Promises 4, 10 and 12, loopcuts/bench.py: trials of benches."""

from loopcuts.bench import Bench, tried
from loopcuts.codes import Code
from loopcuts.cuts import least_cost
from loopcuts.errors import BadCode, BadNumber, NoCut
from loopcuts.runs import longest_unmet
from tests.made import Numbers, known_codes, several_door_codes, small_codes
from tests.samples import every_kind, example, single
from tests.test_bench import BenchAsks, chain, do, jumps_after, made_deed


class Own(BaseException):
    """An exception of a kind of its own."""


ENDS = (Own, KeyboardInterrupt, SystemExit, GeneratorExit, ValueError, LookupError, StopIteration, AttributeError,
        MemoryError, ZeroDivisionError, AssertionError, Exception, BaseException)


def led():
    """Return a bench with two deeds, and its code."""
    bench = Bench(chain())
    bench.price(0, 20)
    bench.jump(("a", "a", 7))
    return bench, chain().priced(0, 20).with_jump(("a", "a", 7))


def lead_on(bench):
    bench.drop(2)
    bench.price(1, 0)
    bench.undo(3)
    bench.jump(("b", "b", 1))


class Trials(BenchAsks):

    def test_the_block_gets_the_bench_itself(self):
        bench, code = led()
        with bench.trial() as same:
            self.assertIs(same, bench)
            self.is_now(bench, code, 2)
        self.is_now(bench, code, 2)

    def test_deeds_are_taken_back_when_it_ends(self):
        bench, code = led()
        with bench.trial() as same:
            same.price(1, 0)
            same.drop(3)
            self.is_now(bench, chain().priced(0, 20).priced(1, 0), 4)
        self.is_now(bench, code, 2)
        bench.undo()
        self.is_now(bench, chain().priced(0, 20), 1)

    def test_undo_of_deeds_of_the_trial(self):
        bench, code = led()
        with bench.trial():
            bench.price(1, 0)
            bench.price(1, 4)
            bench.undo()
            self.is_now(bench, code.priced(1, 0), 3)
        self.is_now(bench, code, 2)

    def test_undo_of_what_was_ahead_of_it(self):
        for many in (1, 2, 3):
            bench, code = led()
            with bench.trial():
                bench.price(1, 0)
                bench.undo(many)
                self.assertEqual(len(bench), 3 - many)
                self.refused_with(BadNumber, "value", 4 - many, bench.undo, 4 - many)
            self.is_now(bench, code, 2)
            bench.undo(2)
            self.is_now(bench, chain(), 0)

    def test_undo_of_all_and_other_deeds(self):
        bench, code = led()
        with bench.trial():
            bench.undo(2)
            bench.drop(2)
            self.is_now(bench, chain().without_jump(2), 1)
        self.is_now(bench, code, 2)
        bench.undo()
        self.is_now(bench, chain().priced(0, 20), 1)

    def test_a_trial_of_a_bench_without_deeds(self):
        bench = Bench(single())
        with bench.trial():
            self.refused_with(BadNumber, "value", 1, bench.undo)
            bench.jump(("a", "a", 1))
            bench.undo()
            bench.jump(("a", "a", 2))
        self.is_now(bench, single(), 0)
        self.refused_with(BadNumber, "value", 1, bench.undo)

    def test_worth(self):
        bench = Bench(example())
        with bench.trial():
            bench.price(1, 0)
            self.assertEqual(bench.worth(), 0)
        self.assertEqual(bench.worth(), 3)

    def test_trials_one_behind_another(self):
        bench, code = led()
        for _ in range(3):
            with bench.trial():
                lead_on(bench)
            self.is_now(bench, code, 2)
        bench.price(2, 9)
        with bench.trial():
            lead_on(bench)
        self.is_now(bench, code.priced(2, 9), 3)

    def test_trials_of_two_benches(self):
        one, code = led()
        other, _ = led()
        with one.trial():
            one.price(1, 0)
            with other.trial():
                other.price(1, 1)
                one.price(1, 2)
            self.is_now(other, code, 2)
            self.is_now(one, code.priced(1, 2), 4)
        self.is_now(one, code, 2)

    def test_a_block_that_is_left_at_once(self):
        bench, code = led()

        def leave():
            with bench.trial() as same:
                same.undo()
                return same.code

        self.assertEqual(leave(), chain().priced(0, 20))
        self.is_now(bench, code, 2)
        for _ in range(2):
            with bench.trial():
                bench.price(1, 0)
                break
        self.is_now(bench, code, 2)


class Nested(BenchAsks):

    def test_trials_within_trials(self):
        bench, code = led()
        with bench.trial() as one:
            one.price(1, 0)
            with one.trial() as other:
                self.assertIs(other, bench)
                lead_on(other)
                with other.trial():
                    bench.undo(len(bench))
                    self.is_now(bench, chain(), 0)
                self.assertEqual(bench.code.jumps[-1], ("b", "b", 1))
            self.is_now(bench, code.priced(1, 0), 3)
            bench.undo(3)
        self.is_now(bench, code, 2)

    def test_in_one_statement(self):
        bench, code = led()
        with bench.trial() as one, bench.trial() as other:
            self.assertIs(one, other)
            lead_on(bench)
        self.is_now(bench, code, 2)

    def test_the_inner_one_ends_by_an_exception(self):
        bench, code = led()
        with bench.trial():
            bench.price(1, 0)
            with self.assertRaises(Own):
                with bench.trial():
                    bench.undo(3)
                    raise Own()
            self.is_now(bench, code.priced(1, 0), 3)
        self.is_now(bench, code, 2)

    def test_many_trials_within_one_another(self):
        bench, code = led()

        def go(depth):
            before = bench.code
            many = len(bench)
            with bench.trial():
                bench.price(depth & 1, depth)
                if depth < 20:
                    go(depth + 1)
                bench.undo()
            self.is_now(bench, before, many)

        go(0)
        self.is_now(bench, code, 2)

    def test_deeds_made_up_by_a_rule(self):
        for seed, code in enumerate(known_codes() + several_door_codes() + small_codes(12)):
            numbers = Numbers(seed)
            bench = Bench(code)
            self.go(bench, [code], numbers, 3)

    def go(self, bench, past, numbers, depth):
        """Do deeds and trials made up by a rule, and hold the bench against codes made anew."""
        for _ in range(8):
            what = numbers.below(6)
            if what == 0 and depth > 0:
                with bench.trial():
                    self.go(bench, list(past), numbers, depth - 1)
            elif what == 1 and len(past) > 1:
                back = 1 + numbers.below(len(past) - 1)
                bench.undo(back)
                del past[-back:]
            else:
                deed = made_deed(past[-1], numbers)
                jumps = jumps_after(past[-1], deed)
                if jumps is not None:
                    do(bench, deed)
                    past.append(Code(bench.code.places, bench.code.door, jumps))
            self.is_now(bench, past[-1], len(past) - 1)
        self.assertEqual(bench.worth(), least_cost(past[-1]))


class Exceptions(BenchAsks):

    def test_each_passes_and_the_bench_is_what_it_was(self):
        for kind in ENDS:
            bench, code = led()
            wrong = kind("told")
            with self.assertRaises(kind) as caught:
                with bench.trial():
                    lead_on(bench)
                    raise wrong
            self.assertIs(caught.exception, wrong)
            self.assertEqual(wrong.args, ("told",))
            self.is_now(bench, code, 2)
            bench.undo(2)
            self.is_now(bench, chain(), 0)

    def test_what_the_bench_refuses_itself(self):
        bench, code = led()
        with self.assertRaises(BadCode) as caught:
            with bench.trial():
                lead_on(bench)
                bench.drop(0)
        self.assertEqual(caught.exception.place, "reach")
        self.is_now(bench, code, 2)
        with self.assertRaises(BadNumber):
            with bench.trial():
                lead_on(bench)
                bench.undo(99)
        self.is_now(bench, code, 2)

    def test_what_is_refused_and_caught_within_it(self):
        bench, code = led()
        with bench.trial():
            self.no_trace(BadNumber, "value", 99, bench, bench.undo, 99)
            self.no_trace(BadCode, "place", 4, bench, bench.jump, None)
            bench.undo()
        self.is_now(bench, code, 2)


class Tried(BenchAsks):

    def test_the_function_gets_the_bench_itself(self):
        bench, code = led()
        got = []
        self.assertIsNone(tried(bench, got.append))
        self.assertIs(got[0], bench)
        self.assertEqual(len(got), 1)
        self.is_now(bench, code, 2)

    def test_what_it_returns_itself(self):
        bench, _ = led()
        for value in every_kind() + [bench]:
            self.assertIs(tried(bench, lambda same: value), value)
        self.assertIs(tried(bench, lambda same: same), bench)

    def test_deeds_are_taken_back(self):
        bench, code = led()

        def cheaper(same):
            lead_on(same)
            same.price(1, 0)
            return same.worth(), same.code

        worth, told = tried(bench, cheaper)
        self.assertEqual(worth, least_cost(told))
        self.assertEqual(told.jumps[1][2], 0)
        self.is_now(bench, code, 2)
        self.assertEqual(tried(bench, Bench.worth), bench.worth())
        self.assertEqual(tried(bench, len), 2)

    def test_undo_of_what_was_ahead(self):
        bench, code = led()
        self.assertIsNone(tried(bench, Bench.undo))
        self.assertIsNone(tried(bench, lambda same: same.undo(2)))
        self.is_now(bench, code, 2)

    def test_exceptions_pass(self):
        for kind in ENDS:
            bench, code = led()
            wrong = kind("told")

            def fail(same):
                lead_on(same)
                raise wrong

            with self.assertRaises(kind) as caught:
                tried(bench, fail)
            self.assertIs(caught.exception, wrong)
            self.is_now(bench, code, 2)
        with self.assertRaises(NoCut):
            tried(bench, lambda same: longest_unmet(same.code, ()))

    def test_within_one_another(self):
        bench, code = led()

        def inner(same):
            same.undo(3)
            return len(same)

        def outer(same):
            same.price(1, 0)
            return tried(same, inner), len(same), tried(same, inner)

        self.assertEqual(tried(bench, outer), (0, 3, 0))
        self.is_now(bench, code, 2)

    def test_by_name(self):
        bench, _ = led()
        self.assertEqual(tried(function=len, bench=bench), 2)
