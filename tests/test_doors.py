"""Promises 13 and 14, loopcuts/doors.py: doors of loops, foldings and papers on the doors."""

from itertools import permutations

from loopcuts.codes import Code
from loopcuts.doors import check_doors, door_of, doors_paper, one_door
from loopcuts.errors import BadLoop, BadPaper
from loopcuts.loops import loops
from tests.asks import Asks
from tests.made import (crossing, few_kinds, known_codes, large_codes, nesting, otherwise, several_door_codes,
                        small_codes)
from tests.samples import Alike, every_kind, example, ring, single, whole
from tests.slow import door_by_words, doors_by_words, foldings_by_words, one_door_by_words


def all_codes():
    return small_codes(120) + large_codes() + known_codes() + several_door_codes()


class DoorOf(Asks):

    def test_the_example(self):
        self.assertEqual(door_of(example(), (1, 2)), "b")
        self.assertEqual(door_of(example(), (1, 3)), "b")

    def test_a_loop_that_contains_the_door_of_the_code(self):
        for door in "acg":
            code = Code(ring(2).places, door, ring(2).jumps)
            self.assertEqual({door_of(code, loop) for loop in loops(code)}, {door})

    def test_a_jump_to_the_place_itself(self):
        code = Code(("a", "b"), "a", [("a", "b", 1), ("b", "b", 1), ("a", "a", 1)])
        self.assertEqual(door_of(code, (1,)), "b")
        self.assertEqual(door_of(code, (2,)), "a")

    def test_loops_within_loops(self):
        told = [(loop, door_of(nesting(), loop)) for loop in loops(nesting())]
        self.assertEqual(told, [((0, 1, 2, 5), "a"), ((1, 2, 4), "b"), ((2, 3), "c")])

    def test_a_loop_with_two_doors(self):
        self.assertIsNone(door_of(crossing(), (2, 3)))

    def test_a_way_past_another_place_of_the_loop(self):
        # Both ways to c come to b ahead of it, so b stays the door.
        jumps = [("a", "b", 1), ("b", "d", 1), ("d", "c", 1), ("b", "c", 1), ("c", "b", 1)]
        code = Code(("a", "b", "c", "d"), "a", jumps)
        self.assertEqual([door_of(code, loop) for loop in loops(code)], ["b", "b"])

    def test_a_way_to_the_second_place_that_passes_by_the_first(self):
        jumps = [("a", "d", 1), ("d", "b", 1), ("d", "c", 1), ("b", "c", 1), ("c", "b", 1)]
        code = Code(("a", "b", "c", "d"), "a", jumps)
        self.assertEqual([door_of(code, loop) for loop in loops(code)], [None])

    def test_by_the_words(self):
        for code in all_codes():
            for loop in loops(code):
                self.assertEqual(door_of(code, loop), door_by_words(code, loop))

    def test_values_of_every_kind(self):
        for value in every_kind():
            self.refused_as_is(BadLoop, "value", value, door_of, example(), value)
            self.refused_as_is(BadLoop, "value", value, door_of, single(), value)

    def test_values_that_are_nearly_loops(self):
        for value in [(), (2, 1), (1,), (0, 1), [1, 2], (1, 2, 1, 2), (True, 2), (1, "2"), ((1, 2),), (1, -1)]:
            self.refused_as_is(BadLoop, "value", value, door_of, example(), value)


class OneDoor(Asks):

    def test_by_the_words(self):
        for code in all_codes():
            self.assertIs(one_door(code), one_door_by_words(code))

    def test_no_loops(self):
        for code in (single(), Code(("a", "b"), "b", [("b", "a", 7)] * 12), ring().without_jump(6)):
            self.assertIs(one_door(code), True)

    def test_several_doors(self):
        for code in several_door_codes():
            self.assertIs(one_door(code), False)

    def test_the_prices_do_not_matter(self):
        for price in (0, 20):
            self.assertIs(one_door(crossing().priced(2, price)), False)
            self.assertIs(one_door(example().priced(1, price)), True)

    def test_the_door_of_the_code_matters(self):
        jumps = [("a", "b", 1), ("b", "c", 1), ("c", "b", 1), ("c", "a", 1), ("a", "c", 1)]
        self.assertIs(one_door(Code(("a", "b", "c"), "a", jumps)), False)
        self.assertIs(one_door(Code(("a", "b", "c"), "b", jumps)), True)
        self.assertIs(one_door(Code(("a", "b", "c"), "c", jumps)), True)


class DoorsPaper(Asks):

    def test_it_holds(self):
        for code in all_codes():
            told = doors_paper(code)
            self.assertIsNone(doors_by_words(code, told))
            self.assertEqual(check_doors(code, told), told[0])
            self.assertEqual(told[0], "one" if one_door_by_words(code) else "several")

    def test_one_place(self):
        self.assertEqual(doors_paper(single()), ("one", ()))
        self.assertEqual(doors_paper(Code(("a",), "a", [("a", "a", 3)] * 12)), ("one", ()))

    def test_only_one_is_possible(self):
        self.assertEqual(doors_paper(Code(("a", "b"), "b", [("b", "a", 7)])), ("one", (("a", "b"),)))

    def test_two_doors(self):
        word, loop, way, other = doors_paper(crossing())
        self.assertEqual((word, loop), ("several", (2, 3)))
        self.assertIn({way, other}, ({(0,), (1,)}, {(4,), (1,)}))


class AsksPapers(Asks):

    def check_like_the_words(self, code, paper):
        wrong = doors_by_words(code, paper)
        if wrong is None:
            self.assertEqual(check_doors(code, paper), paper[0])
        else:
            self.refused_with(BadPaper, "place", wrong, check_doors, code, paper)


class CheckFoldings(AsksPapers):

    def test_the_example(self):
        self.assertEqual(check_doors(example(), ("one", (("c", "b"), ("b", "a")))), "one")

    def test_by_the_words(self):
        for code in small_codes(24) + [crossing(), nesting(), example(), whole("abc")]:
            pairs = [(place, other) for place in code.places for other in code.places]
            rows = [()] + [(pair,) for pair in pairs] + list(permutations(pairs, 2))
            for row in rows:
                self.check_like_the_words(code, ("one", row))

    def test_three_foldings_by_the_words(self):
        code = nesting()
        pairs = [(place, other) for place in code.places for other in code.places if place != other]
        rows = list(permutations(pairs, 3))
        self.assertGreater(len([row for row in rows if foldings_by_words(code, row) is None]), 0)
        for row in rows:
            self.check_like_the_words(code, ("one", row))

    def test_seven_places(self):
        pairs = (("g", "f"), ("f", "e"), ("e", "d"), ("d", "c"), ("c", "b"), ("b", "a"))
        self.assertEqual(check_doors(ring(2), ("one", pairs)), "one")
        turned = (("b", "a"), ("c", "a"), ("d", "a"), ("e", "a"), ("f", "a"), ("g", "a"))
        self.assertEqual(check_doors(ring(2), ("one", turned)), "one")
        for many in range(6):
            self.refused_with(BadPaper, "place", "lumps", check_doors, ring(2), ("one", pairs[:many]))
        self.refused_with(BadPaper, "place", "folding", check_doors, ring(2),
                          ("one", pairs[1:] + (("a", "g"),)))

    def test_the_lump_with_the_door_is_not_put_into_another(self):
        code = Code(("a", "b"), "a", [("a", "b", 1), ("b", "a", 1)])
        self.assertEqual(check_doors(code, ("one", (("b", "a"),))), "one")
        self.refused_with(BadPaper, "place", "folding", check_doors, code, ("one", (("a", "b"),)))

    def test_a_lump_is_not_put_into_itself(self):
        code = Code(("a", "b"), "a", [("a", "b", 1), ("b", "b", 1)])
        for pair in (("b", "b"), ("a", "a")):
            self.refused_with(BadPaper, "place", "folding", check_doors, code, ("one", (pair,)))
        self.refused_with(BadPaper, "place", "folding", check_doors, single(), ("one", (("a", "a"),)))

    def test_a_name_that_is_gone(self):
        self.refused_with(BadPaper, "place", "folding", check_doors, example(), ("one", (("c", "b"), ("c", "b"))))
        self.refused_with(BadPaper, "place", "folding", check_doors, nesting(), ("one", (("c", "b"), ("d", "c"))))
        self.refused_with(BadPaper, "place", "folding", check_doors, example(), ("one", (("c", "b"), ("b", "c"))))
        self.refused_with(BadPaper, "place", "folding", check_doors, example(),
                          ("one", (("c", "b"), ("b", "a"), ("b", "a"))))

    def test_jumps_from_two_lumps(self):
        for pair in (("b", "a"), ("b", "c"), ("c", "a"), ("c", "b")):
            self.refused_with(BadPaper, "place", "folding", check_doors, crossing(), ("one", (pair,)))
        self.refused_with(BadPaper, "place", "lumps", check_doors, crossing(), ("one", ()))

    def test_the_first_wrong_thing_is_told(self):
        self.refused_with(BadPaper, "place", "folding", check_doors, example(), ("one", (("c", "a"), None)))
        self.refused_with(BadPaper, "place", "folding", check_doors, example(), ("one", (("c", "b"), None)))
        self.refused_with(BadPaper, "place", "lumps", check_doors, example(), ("one", (("c", "b"),)))

    def test_foldings_of_every_kind(self):
        for value in every_kind():
            if value != ():
                self.refused_with(BadPaper, "place", "folding", check_doors, example(), ("one", value))
                self.refused_with(BadPaper, "place", "folding", check_doors, single(), ("one", value))
            self.refused_with(BadPaper, "place", "folding", check_doors, example(), ("one", (value,)))
            self.refused_with(BadPaper, "place", "folding", check_doors, example(), ("one", (("c", "b"), value)))
            self.refused_with(BadPaper, "place", "folding", check_doors, example(), ("one", (("b", value), value)))
            self.refused_with(BadPaper, "place", "folding", check_doors, example(), ("one", ((value, value),)))
        code = Code(("x", "y"), "x", [("x", "y", 1)])
        for value in every_kind():
            self.refused_with(BadPaper, "place", "folding", check_doors, code, ("one", ((value, "x"),)))
            self.refused_with(BadPaper, "place", "folding", check_doors, code, ("one", (("y", value),)))


class CheckSeveral(Asks):

    def test_two_doors(self):
        for way, other in [((0,), (1,)), ((1,), (0,)), ((4,), (1,))]:
            self.assertEqual(check_doors(crossing(), ("several", (2, 3), way, other)), "several")

    def test_two_ways_to_one_place(self):
        for way, other in [((0,), (0,)), ((0,), (4,)), ((1,), (1,))]:
            self.refused_with(BadPaper, "place", "other", check_doors, crossing(), ("several", (2, 3), way, other))

    def test_ways_that_come_to_another_place_of_the_loop(self):
        for way in [(0, 2), (1, 3), (4, 2)]:
            self.refused_with(BadPaper, "place", "way", check_doors, crossing(), ("several", (2, 3), way, (0,)))
            self.refused_with(BadPaper, "place", "other", check_doors, crossing(), ("several", (2, 3), (0,), way))
            self.refused_with(BadPaper, "place", "other", check_doors, crossing(), ("several", (2, 3), (1,), way))

    def test_ways_that_do_not_come_to_the_loop(self):
        self.refused_with(BadPaper, "place", "way", check_doors, crossing(), ("several", (2, 3), (), (0,)))
        self.refused_with(BadPaper, "place", "other", check_doors, crossing(), ("several", (2, 3), (0,), ()))

    def test_ways_that_begin_elsewhere(self):
        self.refused_with(BadPaper, "place", "way", check_doors, crossing(), ("several", (2, 3), (2,), (0,)))
        self.refused_with(BadPaper, "place", "other", check_doors, crossing(), ("several", (2, 3), (0,), (2,)))

    def test_the_door_of_the_code_in_the_loop(self):
        code = Code(("a", "b"), "a", [("a", "b", 1), ("b", "a", 1)])
        self.refused_with(BadPaper, "place", "other", check_doors, code, ("several", (0, 1), (), ()))
        self.refused_with(BadPaper, "place", "other", check_doors, code, ("several", (0, 1), (), (0,)))
        self.refused_with(BadPaper, "place", "way", check_doors, code, ("several", (0, 1), (0,), ()))

    def test_longer_ways(self):
        jumps = [("a", "d", 1), ("d", "b", 1), ("d", "c", 1), ("b", "c", 1), ("c", "b", 1)]
        code = Code(("a", "b", "c", "d"), "a", jumps + [("d", "d", 1), ("d", "a", 1)])
        self.assertEqual(check_doors(code, ("several", (3, 4), (0, 1), (0, 2))), "several")
        for way in [(0, 5, 1), (0, 6, 0, 1), (0,), (1,), (0, 1, 3), [0, 1]]:
            self.refused_with(BadPaper, "place", "way", check_doors, code, ("several", (3, 4), way, (0, 2)))
            self.refused_with(BadPaper, "place", "other", check_doors, code, ("several", (3, 4), (0, 2), way))

    def test_the_first_wrong_thing_is_told(self):
        self.refused_with(BadPaper, "place", "loop", check_doors, crossing(), ("several", (3, 2), None, None))
        self.refused_with(BadPaper, "place", "way", check_doors, crossing(), ("several", (2, 3), None, None))
        self.refused_with(BadPaper, "place", "other", check_doors, crossing(), ("several", (2, 3), (0,), None))

    def test_parts_of_every_kind(self):
        for value in every_kind():
            self.refused_with(BadPaper, "place", "loop", check_doors, crossing(), ("several", value, (0,), (1,)))
            if value != (1,) or value[0] is True:
                self.refused_with(BadPaper, "place", "other", check_doors, crossing(), ("several", (2, 3), (0,), value))
            if value != (0,) or value[0] is False:
                self.refused_with(BadPaper, "place", "other", check_doors, crossing(), ("several", (2, 3), (1,), value))
            if value not in [(0,), (1,)] or isinstance(value[0], bool):
                self.refused_with(BadPaper, "place", "way", check_doors, crossing(), ("several", (2, 3), value, (1,)))


class CheckAnything(AsksPapers):

    def test_values_of_every_kind(self):
        for value in every_kind():
            for code in (single(), example(), crossing()):
                self.refused_with(BadPaper, "place", "form", check_doors, code, value)

    def test_forms(self):
        code = example()
        good = (("c", "b"), ("b", "a"))
        for paper in [["one", good], ("one",), ("one", good, good), (good, "one"), ("several", good), ("One", good),
                      ("one", good, good, good), ("several", (1, 2), ()), ("several", (1, 2), (), (), ()),
                      ["several", (1, 2), (), ()], (("one",), good), ("one ", good), "one", ("o", "n"), (1, good),
                      ("on", good), (None, good), (["one"], good), (b"one", good), ("", (), (), ())]:
            self.refused_with(BadPaper, "place", "form", check_doors, code, paper)
        for value in every_kind():
            self.refused_with(BadPaper, "place", "form", check_doors, code, (value, good))
            self.refused_with(BadPaper, "place", "form", check_doors, code, (value, (1, 2), (0,), (0,)))

    def test_a_value_that_is_equal_to_everything(self):
        good = (("c", "b"), ("b", "a"))
        self.refused_with(BadPaper, "place", "form", check_doors, example(), Alike())
        self.refused_with(BadPaper, "place", "form", check_doors, example(), (Alike(), good))
        self.refused_with(BadPaper, "place", "folding", check_doors, example(), ("one", Alike()))
        self.refused_with(BadPaper, "place", "folding", check_doors, example(), ("one", (("c", "b"), ("b", Alike()))))
        self.refused_with(BadPaper, "place", "loop", check_doors, crossing(), ("several", Alike(), (0,), (1,)))
        self.refused_with(BadPaper, "place", "way", check_doors, crossing(), ("several", (2, 3), (Alike(),), (1,)))
        self.refused_with(BadPaper, "place", "other", check_doors, crossing(), ("several", (2, 3), (0,), Alike()))

    def test_each_part_otherwise(self):
        for code in [example(), crossing(), nesting(), whole("abc")] + small_codes(4):
            for paper in otherwise(doors_paper(code), few_kinds()):
                self.check_like_the_words(code, paper)

    def test_papers_of_other_codes(self):
        for code in small_codes(20) + [crossing()]:
            for other in small_codes(20) + [crossing()]:
                self.check_like_the_words(code, doors_paper(other))
