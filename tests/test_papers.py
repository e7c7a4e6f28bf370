"""Promises 12 and 15, loopcuts/cuts.py: packs and papers on cuts."""

from loopcuts.codes import Code
from loopcuts.cuts import check, cost, is_pack, least_cost, paper
from loopcuts.doors import check_doors, one_door
from loopcuts.errors import BadPaper, SeveralDoors
from loopcuts.loops import loops
from tests.asks import Asks
from tests.made import (chained_code, crossing, few_kinds, known_codes, large_codes, nesting, otherwise,
                        several_door_codes, sharing, small_codes)
from tests.samples import Alike, every_kind, example, ring, single, whole
from tests.slow import (cost_by_words, cuts_by_words, is_cut_by_words, is_in, is_pack_by_words, least_cost_by_words,
                        lots_by_words)

GOOD = (((1, 2), 1), ((1, 3), 2))


def all_codes():
    return small_codes(120) + large_codes() + known_codes() + several_door_codes()


def one_door_codes():
    return [code for code in all_codes() if one_door(code)]


def check_by_words(code, cut, pack):
    """Return what of a paper on cuts is wrong, or the number of both."""
    if not is_in(cut, lots_by_words(code)) or not is_cut_by_words(code, cut):
        return "cut"
    if not is_pack_by_words(code, pack):
        return "pack"
    size = sum([times for _, times in pack])
    return size if cost(code, cut) == size else "number"


class IsPack(Asks):

    def test_the_example(self):
        for one in range(4):
            for other in range(4):
                told = tuple([pair for pair in [((1, 2), one), ((1, 3), other)] if pair[1] > 0])
                self.assertIs(is_pack(example(), told), one <= 1 and other <= 2)

    def test_a_shared_jump_binds(self):
        code = example().priced(1, 2)
        self.assertIs(is_pack(code, (((1, 2), 1), ((1, 3), 1))), True)
        self.assertIs(is_pack(code, GOOD), False)
        self.assertIs(is_pack(code, (((1, 3), 2),)), True)
        self.assertIs(is_pack(code.priced(1, 0), (((1, 3), 1),)), False)

    def test_no_loops(self):
        self.assertIs(is_pack(single(), ()), True)
        self.assertIs(is_pack(single(), (((0,), 1),)), False)
        for code in all_codes():
            self.assertIs(is_pack(code, ()), True)

    def test_the_times(self):
        code = Code(("a",), "a", [("a", "a", 20), ("a", "a", 0)])
        for times in range(1, 21):
            self.assertIs(is_pack(code, (((0,), times),)), True)
        for times in (0, -1, 21, 10 ** 999, -(10 ** 999), True, False, None, "1", (1,), [1]):
            self.assertIs(is_pack(code, (((0,), times),)), False)
        for times in (0, 1):
            self.assertIs(is_pack(code, (((1,), times),)), False)

    def test_the_loops(self):
        for loop in [(2, 1), (1,), (), (0,), [1, 2], (True, 2), None, "12", (1, 2, 3), ((1, 2),), 1]:
            self.assertIs(is_pack(example(), ((loop, 1),)), False)

    def test_the_order(self):
        self.assertIs(is_pack(example(), GOOD[::-1]), False)
        self.assertIs(is_pack(example().priced(2, 20).priced(1, 20), (GOOD[0], GOOD[0])), False)
        self.assertIs(is_pack(example().priced(2, 20).priced(1, 20), (((1, 2), 1), ((1, 2), 2))), False)

    def test_the_form(self):
        for value in [list(GOOD), (list(GOOD[0]), GOOD[1]), ((1, 2), 1), GOOD[0], ((1, 2),), (((1, 2),),),
                      (((1, 2), 1, 1),), (((1, 2), 1), ()), (((1, 2), 1), None), {(1, 2): 1}, ((1, (1, 2)),)]:
            self.assertIs(is_pack(example(), value), False)
        for value in every_kind() + [Alike()]:
            self.assertIs(is_pack(example(), value), value.__class__ is tuple and value == ())
            self.assertIs(is_pack(example(), (value,)), False)
            self.assertIs(is_pack(example(), ((value, 1),)), False)
            self.assertIs(is_pack(example(), (((1, 3), value),)), value.__class__ is int and 1 <= value <= 2)

    def test_by_the_words(self):
        for code in small_codes() + [sharing(), whole("abc")]:
            for one in loops(code):
                for other in loops(code):
                    for times in (1, 2, 5, 20):
                        told = ((one, 1), (other, times))
                        self.assertIs(is_pack(code, told), is_pack_by_words(code, told))
                        self.assertIs(is_pack(code, told[1:]), is_pack_by_words(code, told[1:]))

    def test_many_alike_loops(self):
        code = Code(("a", "b"), "a", [("a", "b", 11)] + [("b", "a", 1)] * 11)
        every = tuple([((0, number), 1) for number in range(1, 12)])
        self.assertIs(is_pack(code, every), True)
        self.assertIs(is_pack(code.priced(0, 10), every), False)
        self.assertIs(is_pack(code.priced(0, 10), every[1:]), True)


class Paper(Asks):

    def test_it_holds(self):
        for code in one_door_codes():
            cut, pack = paper(code)
            self.assertEqual(check_by_words(code, cut, pack), least_cost_by_words(code))
            self.assertEqual(check(code, cut, pack), least_cost(code))
            self.assertIsInstance(paper(code), tuple)

    def test_every_price(self):
        for code in (example(), nesting(), sharing()):
            cuts = cuts_by_words(code)
            for number in range(len(code)):
                for price in range(21):
                    other = code.priced(number, price)
                    self.assertEqual(check(other, *paper(other)), min([cost_by_words(other, cut) for cut in cuts]))

    def test_a_loop_that_shares_several_jumps_with_a_least_cut(self):
        for places in (3, 4, 5, 6, 7):
            for seed in range(40):
                code = chained_code(seed, places)
                self.assertEqual(check(code, *paper(code)), least_cost(code))

    def test_a_loop_that_shares_two_jumps_with_a_cut_that_is_not_least(self):
        code = Code(("a", "b", "c"), "a", [("a", "b", 2), ("b", "c", 2), ("c", "a", 5), ("b", "a", 1), ("c", "b", 1)])
        self.assertEqual(paper(code)[1], (((0, 1, 2), 1), ((0, 3), 1), ((1, 4), 1)))

    def test_no_loops(self):
        self.assertEqual(paper(single())[1], ())
        self.assertEqual(check(single(), *paper(single())), 0)

    def test_no_pack_with_prices_of_0(self):
        code = Code(("a",), "a", [("a", "a", 0)] * 12)
        self.assertEqual(paper(code), (tuple(range(12)), ()))

    def test_all_loops_are_needed(self):
        self.assertEqual(paper(example())[1], GOOD)
        code = Code(("a",), "a", [("a", "a", 20)] * 12)
        self.assertEqual(paper(code), (tuple(range(12)), tuple([((number,), 20) for number in range(12)])))

    def test_several_doors(self):
        for code in [code for code in all_codes() if not one_door(code)]:
            told = self.refused(SeveralDoors, "paper", paper, code)
            self.assertEqual(told[0], "several")
            self.assertEqual(check_doors(code, told), "several")

    def test_several_doors_although_there_would_be_a_pack(self):
        self.refused(SeveralDoors, "paper", paper, crossing())
        self.assertEqual(check(crossing(), (2,), (((2, 3), 3),)), 3)


class Check(Asks):

    def test_the_example(self):
        self.assertEqual(check(example(), (1,), GOOD), 3)
        self.assertEqual(check(example(), (2, 3), GOOD), 3)

    def test_no_loops(self):
        self.assertEqual(check(single(), (), ()), 0)
        self.refused_with(BadPaper, "place", "number", check, ring().without_jump(6), (0,), ())

    def test_numbers_that_are_unlike(self):
        self.refused_with(BadPaper, "place", "number", check, example(), (0, 1), GOOD)
        self.refused_with(BadPaper, "place", "number", check, example(), (1,), GOOD[:1])
        self.refused_with(BadPaper, "place", "number", check, example(), (1,), ())
        self.refused_with(BadPaper, "place", "number", check, example(), (1, 2, 3), GOOD)

    def test_prices_of_0(self):
        code = example().priced(1, 0)
        self.assertEqual(check(code, (1,), ()), 0)
        self.assertEqual(check(code.priced(0, 0), (0, 1), ()), 0)

    def test_the_first_wrong_thing_is_told(self):
        self.refused_with(BadPaper, "place", "cut", check, example(), (0,), None)
        self.refused_with(BadPaper, "place", "cut", check, example(), None, None)
        self.refused_with(BadPaper, "place", "pack", check, example(), (0, 1), None)

    def test_values_of_every_kind(self):
        for value in every_kind() + [Alike()]:
            if value.__class__ is not tuple or value != (1,) or value[0] is True:
                self.refused_with(BadPaper, "place", "cut", check, example(), value, GOOD)
            if value.__class__ is not tuple or value != ():
                self.refused_with(BadPaper, "place", "pack", check, example(), (1,), value)

    def test_each_part_otherwise(self):
        for code in [example(), nesting()] + small_codes(4):
            if one_door(code):
                cut, pack = paper(code)
                for other in otherwise(cut, few_kinds()):
                    self.check_like_the_words(code, other, pack)
                for other in otherwise(pack, few_kinds()):
                    self.check_like_the_words(code, cut, other)

    def check_like_the_words(self, code, cut, pack):
        wrong = check_by_words(code, cut, pack)
        if isinstance(wrong, str):
            self.refused_with(BadPaper, "place", wrong, check, code, cut, pack)
        else:
            self.assertEqual(check(code, cut, pack), wrong)

    def test_all_cuts_with_one_pack(self):
        for code in one_door_codes()[:60]:
            pack = paper(code)[1]
            for cut in cuts_by_words(code)[::7]:
                self.check_like_the_words(code, cut, pack)

    def test_papers_of_other_codes(self):
        for code in one_door_codes()[:20]:
            for other in one_door_codes()[:20]:
                self.check_like_the_words(code, *paper(other))

    def test_codes_of_which_a_loop_has_no_door(self):
        self.assertEqual(check(crossing(), (2,), (((2, 3), 3),)), 3)
        self.assertEqual(check(crossing().priced(2, 0), (2,), ()), 0)
