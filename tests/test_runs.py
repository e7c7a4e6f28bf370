"""Promise 18, loopcuts/runs.py: runs, how often they meet a lot, and the longest rows that do not."""

from loopcuts.codes import Code
from loopcuts.errors import BadLot, BadNumber, BadRun, NoCut
from loopcuts.runs import is_run, longest_unmet, met, runs_of
from tests.asks import Asks
from tests.made import (Numbers, crossing, few_kinds, known_codes, large_codes, nesting, otherwise, several_door_codes,
                        sharing, small_codes)
from tests.samples import Alike, every_kind, example, ring, single, whole
from tests.slow import (cuts_by_words, is_in, is_number, is_run_by_words, longest_row, longest_unmet_by_words,
                        loops_by_words, lots_by_words, runs_by_words)

NEARLY_RUNS = [(1,), (2,), (0, 0), (0, 2), (0, 1, 1), (0, 1, 2, 2), (4,), (-1,), (0, 4), (-4,), (0, -3), [0], [],
               (True,), (False,), (0, True), (0, 1, 2, True), ("0",), (None,), ((0,),), (0, None), (0, [1]), 0, "0",
               {0: 0}, {0}, (0, 10 ** 999), range(1), range(0), (b"",), "", b"", None, False, (0, (1,)), (0, 1, ())]


def some_codes():
    return small_codes() + known_codes() + several_door_codes()


def made_run(code, seed, most):
    """Return a run of at most so many jumps, made up by a rule."""
    numbers = Numbers(seed)
    run, place = (), code.door
    while len(run) < most:
        further = [number for number, jump in enumerate(code.jumps) if jump[0] == place]
        if not further:
            return run
        run += (further[numbers.below(len(further))],)
        place = code.jumps[run[-1]][1]
    return run


def made_lot(code, seed):
    """Return a lot of jumps, made up by a rule."""
    numbers = Numbers(seed)
    return tuple([number for number in range(len(code.jumps)) if numbers.below(3) == 0])


class IsRun(Asks):

    def test_the_example(self):
        for run in [(), (0,), (0, 1), (0, 1, 2), (0, 1, 3), (0, 1, 2, 1, 3), (0, 1, 2, 1, 2, 1, 2)]:
            self.assertIs(is_run(example(), run), True)

    def test_it_begins_at_the_door(self):
        code = Code(("a", "b"), "b", [("a", "b", 1), ("b", "a", 1)])
        self.assertEqual([is_run(code, run) for run in [(0,), (1,), (0, 1), (1, 0)]], [False, True, False, True])

    def test_no_jumps(self):
        self.assertIs(is_run(single(), ()), True)
        for run in [(0,), (-1,), (False,), (0, 0)]:
            self.assertIs(is_run(single(), run), False)

    def test_values_that_are_nearly_runs(self):
        for value in NEARLY_RUNS:
            self.assertIs(is_run(example(), value), False)

    def test_values_of_every_kind(self):
        for code in (single(), example(), crossing()):
            for value in every_kind() + [Alike(), (Alike(),)]:
                self.assertIs(is_run(code, value), is_run_by_words(code, value))

    def test_long_runs(self):
        code = Code(("a",), "a", [("a", "a", 1)] * 12)
        self.assertIs(is_run(code, (11, 0, 3) * 9999), True)
        self.assertIs(is_run(code, (11, 0, 3) * 9999 + (12,)), False)
        self.assertIs(is_run(code, (11, 0, 3) * 9999 + (True,)), False)
        self.assertIs(is_run(ring(), tuple(range(7)) * 4000), True)
        self.assertIs(is_run(ring(), tuple(range(7)) * 4000 + (1,)), False)

    def test_by_the_words(self):
        for code in some_codes() + large_codes():
            for seed in range(3):
                run = made_run(code, seed, 6)
                self.assertIs(is_run(code, run), True)
                for thing in otherwise(run, few_kinds()):
                    self.assertIs(is_run(code, thing), is_run_by_words(code, thing))


class Met(Asks):

    def test_the_example(self):
        run = (0, 1, 2, 1, 3)
        self.assertEqual([met(example(), run, lot) for lot in [(1,), (), (0,), (2, 3), (0, 1, 2, 3)]], [2, 0, 1, 2, 5])

    def test_the_run_without_jumps(self):
        for code in some_codes():
            for seed in range(3):
                self.assertEqual(met(code, (), made_lot(code, seed)), 0)

    def test_a_jump_as_often_as_it_stands_there(self):
        code = Code(("a",), "a", [("a", "a", 1)] * 12)
        self.assertEqual(met(code, (3, 3, 3, 0, 11, 3), (3,)), 4)
        self.assertEqual(met(code, (11, 0) * 14999, (11,)), 14999)

    def test_by_the_words(self):
        for code in some_codes() + large_codes():
            for seed in range(6):
                run, lot = made_run(code, seed, 9), made_lot(code, seed)
                told = met(code, run, lot)
                self.assertIs(told.__class__, int)
                self.assertEqual(told, sum([run.count(number) for number in lot]))

    def test_values_that_are_no_runs(self):
        for value in NEARLY_RUNS:
            self.refused_as_is(BadRun, "value", value, met, example(), value, (1,))
        for value in every_kind() + [Alike(), (Alike(),)]:
            if not is_run_by_words(example(), value):
                self.refused_as_is(BadRun, "value", value, met, example(), value, (1,))
            if not is_run_by_words(single(), value):
                self.refused_as_is(BadRun, "value", value, met, single(), value, ())

    def test_values_that_are_no_lots(self):
        for value in every_kind() + [Alike(), (1, 0), (0, 0), (4,), (-1,), [1], (0, True), (0, (1,)), "1"]:
            if not is_in(value, lots_by_words(example())):
                self.refused_as_is(BadLot, "value", value, met, example(), (0, 1), value)

    def test_the_first_wrong_thing_is_told(self):
        for value in every_kind() + [(1,), [0]]:
            if not is_run_by_words(example(), value):
                self.refused_as_is(BadRun, "value", value, met, example(), value, value)
                self.refused_as_is(BadRun, "value", value, met, example(), value, [1])


class LongestUnmet(Asks):

    def test_the_example(self):
        told = [longest_unmet(example(), cut) for cut in [(1,), (2, 3), (0, 1), (0, 1, 2, 3), (1, 2), (0, 2, 3)]]
        self.assertEqual(told, [1, 2, 1, 0, 1, 1])

    def test_no_jumps(self):
        self.assertEqual(longest_unmet(single(), ()), 0)

    def test_rows_of_up_to_six_jumps(self):
        code = ring()
        for number in range(7):
            self.assertEqual(longest_unmet(code, (number,)), 6)
        self.assertEqual(longest_unmet(code.without_jump(6), ()), 6)
        self.assertEqual(longest_unmet(code, (0, 3)), 3)
        self.assertEqual(longest_unmet(code, (0, 2, 4)), 2)
        self.assertEqual(longest_unmet(code, (0, 2, 4, 6)), 1)
        self.assertEqual(longest_unmet(ring(2), (0, 7)), 6)

    def test_the_order_of_the_jumps_does_not_matter(self):
        code = ring().without_jump(6)
        for shift in range(6):
            jumps = code.jumps[shift:] + code.jumps[:shift]
            self.assertEqual(longest_unmet(Code(code.places, "a", jumps), ()), 6)
            self.assertEqual(longest_unmet(Code(code.places, "a", jumps[::-1]), ()), 6)

    def test_a_row_need_not_begin_at_the_door(self):
        code = Code(("a", "b", "c", "d"), "a", [("a", "b", 1), ("b", "c", 1), ("c", "d", 1)])
        self.assertEqual(longest_unmet(code, (0,)), 2)
        self.assertEqual(longest_unmet(code, (0, 1)), 1)

    def test_by_the_words(self):
        for code in some_codes():
            for cut in cuts_by_words(code)[::5]:
                told = longest_unmet(code, cut)
                self.assertIs(told.__class__, int)
                self.assertEqual(told, longest_unmet_by_words(code, cut))

    def test_by_all_runs(self):
        for code in small_codes(40) + [example(), crossing(), single()]:
            if len(code.places) <= 3 and len(code.jumps) <= 6:
                runs = [run for many in range(5) for run in runs_by_words(code, many)]
                for cut in cuts_by_words(code):
                    self.assertEqual(longest_unmet(code, cut), max([longest_row(run, cut) for run in runs]))

    def test_large_codes(self):
        for code in large_codes():
            for cut in cuts_by_words(code)[::101]:
                self.assertEqual(longest_unmet(code, cut), longest_unmet_by_words(code, cut))

    def test_lots_that_are_no_cuts(self):
        self.assertEqual(self.refused(NoCut, "loop", longest_unmet, example(), (2,)), (1, 3))
        for code in some_codes():
            loops = loops_by_words(code)
            for lot in lots_by_words(code)[::7]:
                if any([not set(loop) & set(lot) for loop in loops]):
                    loop = self.refused(NoCut, "loop", longest_unmet, code, lot)
                    self.assertTrue(is_in(loop, loops))
                    self.assertFalse(set(loop) & set(lot))

    def test_values_that_are_no_lots(self):
        for value in every_kind() + [Alike(), (1, 0), (0, 0), (4,), (-1,), [1], (0, True), (2, (3,)), "1", (1, 1)]:
            if not is_in(value, lots_by_words(example())):
                self.refused_as_is(BadLot, "value", value, longest_unmet, example(), value)
            if not is_in(value, [()]):
                self.refused_as_is(BadLot, "value", value, longest_unmet, single(), value)


class RunsOf(Asks):

    def test_the_example(self):
        self.assertEqual(runs_of(example(), 0), ((),))
        self.assertEqual(runs_of(example(), 2), ((0, 1),))
        self.assertEqual(runs_of(example(), 4), ((0, 1, 2, 1), (0, 1, 3, 1)))

    def test_no_runs_of_so_many_jumps(self):
        self.assertEqual([runs_of(single(), many) for many in range(5)], [((),), (), (), (), ()])
        code = Code(("a", "b"), "a", [("a", "b", 1)] * 2)
        self.assertEqual([runs_of(code, many) for many in range(5)], [((),), ((0,), (1,)), (), (), ()])

    def test_twelve_jumps_at_one_place(self):
        code = Code(("a",), "a", [("a", "a", 1)] * 12)
        for many in range(5):
            self.assertEqual(runs_of(code, many), runs_by_words(code, many))
        self.assertEqual(len(runs_of(code, 4)), 20736)

    def test_by_the_words(self):
        for code in some_codes():
            if len(code.jumps) <= 8:
                for many in range(5):
                    self.assertEqual(runs_of(code, many), runs_by_words(code, many))

    def test_large_codes(self):
        for code in large_codes(4) + [sharing(), whole(), ring(2), nesting()]:
            for many in range(4):
                self.assertEqual(runs_of(code, many), runs_by_words(code, many))
            self.assertTrue(all([is_run(code, run) for run in runs_of(code, 4)]))

    def test_values_of_every_kind(self):
        for value in every_kind() + [Alike(), -1, 5, "3", [3], (3,), 10 ** 999]:
            if not is_number(value) or not 0 <= value <= 4:
                for code in (single(), example()):
                    self.refused_as_is(BadNumber, "value", value, runs_of, code, value)
