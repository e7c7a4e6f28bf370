"""Promise 10, loopcuts/codes.py: what a code is, and what is none."""

from itertools import product

from loopcuts.codes import Code
from loopcuts.errors import BadCode
from tests.asks import Asks
from tests.samples import Alike, every_kind, example, ring, single, whole

WORDS_OF_NO_KIND = ["", "abcdefghi", "A", "aB", "Ab", "a1", "1", "a b", " a", "a ", "a\n", "\n", "a-b",
                    "a_b", "{", "`", "@", "[", "\u00e9", "\u0430", "z" * 30000]


class GoodCodes(Asks):

    def fields(self, code, places, door, jumps):
        self.assertEqual((code.places, code.door, code.jumps), (places, door, jumps))
        for field in (code.places, code.jumps):
            self.assertIsInstance(field, tuple)

    def test_one_place_and_no_jump(self):
        self.fields(Code(("a",), "a"), ("a",), "a", ())
        self.fields(Code(("a",), "a", []), ("a",), "a", ())
        self.fields(Code(("a",), "a", ()), ("a",), "a", ())

    def test_seven_places_and_twelve_jumps(self):
        code = ring(2)
        self.assertEqual(code.places, ("a", "b", "c", "d", "e", "f", "g"))
        self.assertEqual(len(code.jumps), 12)
        self.assertEqual(code.jumps[6], ("g", "a", 1))
        self.assertEqual(code.jumps[7], ("a", "b", 1))

    def test_jumps_as_a_list_and_as_a_tuple(self):
        jumps = [("a", "b", 5), ("b", "b", 0)]
        for given in (jumps, tuple(jumps)):
            self.fields(Code(("a", "b"), "a", given), ("a", "b"), "a", tuple(jumps))

    def test_each_price(self):
        for price in range(21):
            self.fields(Code(("a",), "a", [("a", "a", price)]), ("a",), "a", (("a", "a", price),))

    def test_alike_jumps_and_jumps_to_the_place_itself(self):
        jumps = (("a", "a", 3),) * 6 + (("a", "a", 4),) * 6
        self.fields(Code(("a",), "a", jumps), ("a",), "a", jumps)

    def test_words_of_one_and_of_eight_letters(self):
        places = ("a", "abcdefgh", "z", "zzzzzzzz")
        jumps = tuple([("z", place, 1) for place in places])
        self.fields(Code(places, "z", jumps), places, "z", jumps)

    def test_each_letter(self):
        for letter in "abcdefghijklmnopqrstuvwxyz":
            self.fields(Code((letter,), letter), (letter,), letter, ())

    def test_each_place_may_be_the_door(self):
        for door in "abcdefg":
            self.assertEqual(Code(ring().places, door, ring().jumps).door, door)

    def test_places_are_ordered_as_texts(self):
        places = ("a", "aa", "ab", "b", "ba")
        jumps = tuple([("a", place, 1) for place in places])
        self.fields(Code(places, "a", jumps), places, "a", jumps)

    def test_far_places_are_reached_in_whatever_order_the_jumps_stand(self):
        places = tuple("abcdefg")
        steps = [(one, other, 0) for one, other in zip(places, places[1:])]
        for jumps in (steps, steps[::-1], steps[3:] + steps[:3]):
            self.assertEqual(Code(places, "a", jumps).jumps, tuple(jumps))
        back = [(other, one, 0) for one, other, _ in steps]
        for jumps in (back, back[::-1]):
            self.assertEqual(Code(places, "g", jumps).jumps, tuple(jumps))

    def test_the_length_is_the_number_of_jumps(self):
        for many in range(13):
            code = Code(("a",), "a", [("a", "a", 1)] * many)
            self.assertEqual(len(code), many)
        self.assertEqual(len(example()), 4)


class RefusedPlaces(Asks):

    def bad_places(self, places):
        self.refused_with(BadCode, "place", "places", Code, places, "a")

    def test_values_of_every_kind(self):
        for value in every_kind():
            if value != ("a",):
                self.bad_places(value)

    def test_as_items_values_of_every_kind(self):
        for value in every_kind():
            if value not in ("a", "b", "abc"):
                self.bad_places((value,))
                self.bad_places(("a", value))
                self.bad_places((value, "z"))

    def test_words_of_no_kind(self):
        for word in WORDS_OF_NO_KIND:
            self.refused_with(BadCode, "place", "places", Code, (word,), word)

    def test_too_few_and_too_many(self):
        self.refused_with(BadCode, "place", "places", Code, (), "a")
        places = tuple("abcdefgh")
        jumps = [("a", place, 1) for place in places]
        self.refused_with(BadCode, "place", "places", Code, places, "a", jumps)

    def test_not_ascending(self):
        for places in (("b", "a"), ("a", "a"), ("a", "b", "b"), ("a", "c", "b"), ("aa", "a"), ("b", "a", "c")):
            jumps = [(one, other, 1) for one in places for other in places]
            self.refused_with(BadCode, "place", "places", Code, places, "a", jumps)

    def test_lists(self):
        self.bad_places(["a"])
        self.bad_places([])
        self.bad_places((["a"],))
        self.bad_places((("a",),))
        self.bad_places("a")


class RefusedDoors(Asks):

    def test_values_of_every_kind(self):
        jumps = [("a", "b", 1), ("b", "a", 1)]
        for value in every_kind():
            if value not in ("a", "b"):
                self.refused_with(BadCode, "place", "door", Code, ("a", "b"), value, jumps)

    def test_words_that_are_no_places(self):
        for value in ["b", "aa", "A", "a ", 0, ("a",), ["a"], b"a"]:
            self.refused_with(BadCode, "place", "door", Code, ("a",), value)

    def test_a_value_that_calls_itself_equal(self):
        self.refused_with(BadCode, "place", "door", Code, ("a",), Alike())


class RefusedJumps(Asks):

    def bad_jumps(self, number, jumps):
        self.refused_with(BadCode, "place", number, Code, ("a", "b"), "a", jumps)

    def test_jumps_of_every_kind(self):
        for value in every_kind():
            if not isinstance(value, (list, tuple)):
                self.refused_with(BadCode, "place", None, Code, ("a",), "a", value)
        for value in [iter(()), {("a", "a", 1): 1}, {("a", "a", 1)}, (jump for jump in ())]:
            self.refused_with(BadCode, "place", None, Code, ("a",), "a", value)

    def test_thirteen_jumps_or_more(self):
        for many in (13, 14, 29999):
            for item in [("a", "b", 1), None]:
                self.bad_jumps(None, [item] * many)
                self.bad_jumps(None, (item,) * many)

    def test_items_of_every_kind(self):
        for value in every_kind():
            if value != ("a", "a", 1):
                self.bad_jumps(0, [value])
                self.bad_jumps(0, (value, ("a", "b", 1)))
                self.bad_jumps(1, [("a", "b", 1), value])

    def test_parts_of_every_kind(self):
        for value in every_kind():
            if value not in ("a", "b"):
                self.bad_jumps(0, [(value, "b", 1)])
                self.bad_jumps(0, [("a", value, 1)])
            if isinstance(value, bool) or value not in range(21):
                self.bad_jumps(0, [("a", "b", value)])

    def test_prices_out_of_bounds(self):
        for price in (-1, 21, 22, 100, -20, 10 ** 999, -(10 ** 999), True, False, "1", (1,), None):
            self.bad_jumps(1, [("a", "b", 1), ("b", "b", price)])

    def test_too_few_and_too_many_parts_and_lists(self):
        for item in [(), ("a",), ("a", "b"), ("a", "b", 1, 1), ("a", "b", 1, None), ["a", "b", 1],
                     ("a", ("b", 1)), (("a", "b"), 1), ("ab", 1), "ab1", (("a", "b", 1),), (1, "a", "b")]:
            self.bad_jumps(0, [item])

    def test_values_that_call_themselves_equal(self):
        for item in [(Alike(), "a", 1), ("a", Alike(), 1), ("a", "a", Alike()), Alike()]:
            self.bad_jumps(0, [item])

    def test_the_first_wrong_item_is_told(self):
        good = ("a", "b", 1)
        for at in range(12):
            self.bad_jumps(at, [good] * at + [None] * (12 - at))
            self.bad_jumps(at, [good] * at + [("a", "c", 1)] + [good] * (11 - at))

    def test_places_that_cannot_be_reached(self):
        places = ("a", "b", "c")
        for jumps in [(), [("a", "a", 1)], [("a", "b", 1)], [("b", "a", 1), ("c", "a", 1)],
                      [("a", "b", 1), ("c", "b", 1)], [("a", "b", 1), ("c", "c", 1)],
                      [("b", "c", 1), ("c", "b", 1)], [("a", "c", 1)] * 12]:
            self.refused_with(BadCode, "place", "reach", Code, places, "a", jumps)
        self.refused_with(BadCode, "place", "reach", Code, ("a", "b"), "b", [("a", "b", 1)])
        self.refused_with(BadCode, "place", "reach", Code, ("a", "b"), "a")

    def test_what_is_reached_against_a_search_of_steps(self):
        places = ("a", "b", "c")
        steps = [(one, other, 2) for one in places for other in places if one != other]
        for chosen in product([False, True], repeat=6):
            jumps = [step for step, is_chosen in zip(steps, chosen) if is_chosen]
            for door in places:
                reached = {door}
                for _ in places:
                    reached |= {other for one, other, _ in jumps if one in reached}
                if len(reached) == 3:
                    self.assertEqual(Code(places, door, jumps).door, door)
                else:
                    self.refused_with(BadCode, "place", "reach", Code, places, door, jumps)


class OrderOfRefusals(Asks):

    def test_places_first(self):
        for door in ["b", None]:
            for jumps in [None, [None] * 13, [None], [("a", "a", 1)]]:
                self.refused_with(BadCode, "place", "places", Code, ("a", "a"), door, jumps)

    def test_then_the_door(self):
        for jumps in [None, [None] * 13, [None], ()]:
            self.refused_with(BadCode, "place", "door", Code, ("a", "b"), "c", jumps)

    def test_then_the_jumps_then_each_jump_then_the_reach(self):
        self.refused_with(BadCode, "place", None, Code, ("a", "b"), "a", [None] * 13)
        self.refused_with(BadCode, "place", 0, Code, ("a", "b"), "a", [None])
        self.refused_with(BadCode, "place", 2, Code, ("a", "b"), "a", [("a", "a", 1)] * 2 + [("a", "c", 1), None])
        self.refused_with(BadCode, "place", "reach", Code, ("a", "b"), "a", [("a", "a", 1)])


class Equality(Asks):

    def test_equal_codes(self):
        for make in (single, example, ring, whole):
            self.assertIs(make() == make(), True)
            self.assertIs(make() != make(), False)
        code = example()
        self.assertIs(code == code, True)
        self.assertIs(code == Code(code.places, code.door, list(code.jumps)), True)

    def test_codes_with_another_field(self):
        jumps = (("a", "b", 1), ("b", "a", 2))
        code = Code(("a", "b"), "a", jumps)
        others = [Code(("a", "b"), "b", jumps), Code(("a", "b"), "a", jumps[::-1]),
                  Code(("a", "b"), "a", jumps[:1]), Code(("a", "b"), "a", jumps + jumps[:1]),
                  Code(("a", "b"), "a", (("a", "b", 1), ("b", "a", 3))),
                  Code(("a", "b"), "a", (("a", "b", 1), ("b", "b", 2)))]
        for other in others:
            self.assertIs(code == other, False)
            self.assertIs(other == code, False)
            self.assertIs(code != other, True)
        self.assertIs(Code(("a",), "a") == Code(("b",), "b"), False)

    def test_other_places_alone_make_another_code(self):
        # No two codes differ in their places alone, so one is made by hand.
        one, other = single(), single()
        other.places = ("a", "b")
        self.assertIs(one == other, False)

    def test_a_value_that_calls_itself_equal_is_not_equal(self):
        self.assertIs(example() == Alike(), False)
        self.assertIs(example() != Alike(), True)

    def test_anything_else_is_not_equal(self):
        code = example()
        for value in every_kind() + [(code.places, code.door, code.jumps), code.jumps, len(code)]:
            if not isinstance(value, Code):
                self.assertIs(code == value, False)
                self.assertIs(code != value, True)
                self.assertIs(value == code, False)
                self.assertIs(value != code, True)
