"""Promises 10, 11 and 2, loopcuts/texts.py: texts of codes and loops, there and back."""

from loopcuts.codes import Code
from loopcuts.errors import BadCode, BadLoop, BadText
from loopcuts.loops import loops
from loopcuts.texts import code_text, loop_text, read_code
from tests.asks import Asks
from tests.made import (chained_code, crossing, known_codes, large_codes, nesting, otherwise, few_kinds,
                        several_door_codes, small_codes)
from tests.samples import Alike, every_kind, example, ring, single, whole
from tests.slow import is_in, loops_by_words, wrong_line_by_words

TEXT = "places a b c\ndoor a\na b 5\nb c 3\nc b 1\nc b 2"
WORDS = ["", "a", "b", "c", "d", "aa", "abcdefgh", "abcdefghi", "A", "0", "00", "05", "+5", "-0", "5 ", "20", "21",
         "5.", "1_0", "a1", "places", "door", "\t", "\r", "a\t", "9" * 5000, "\u0665", "\u00e9", "\u00b2", "{", "`",
         "5\r", "\u2028", "\x0b", "0x1", "1e1", "None"]


def some_codes():
    return small_codes() + large_codes() + known_codes() + several_door_codes() + [chained_code(2, 7)]


def lines_otherwise(text):
    """Return texts near a text: lines left out, doubled, turned about, put elsewhere, split and joined."""
    lines = text.split("\n")
    near = [lines[::-1], lines + [""], [""] + lines, lines + lines]
    for at, line in enumerate(lines):
        near += [lines[:at] + lines[at + 1:], lines[:at] + [line] + lines[at:], lines[:at], lines[at:],
                 lines[:at] + [""] + lines[at:], lines[:at] + lines[at + 1:] + [line], [line] + lines,
                 lines[:at] + [" ".join(line.split(" ")[::-1])] + lines[at + 1:]]
        near += [lines[:at] + lines[at + 1:at + 2] + [line] + lines[at + 2:]]
    return ["\n".join(one) for one in near]


def parts_otherwise(text):
    """Return texts near a text: words put otherwise, added and left out."""
    near = []
    lines = text.split("\n")
    for at, line in enumerate(lines):
        words = line.split(" ")
        for place in range(len(words) + 1):
            changed = [words[:place] + words[place + 1:]]
            changed += [words[:place] + [word] + words[place + 1:] for word in WORDS]
            changed += [words[:place] + [word] + words[place:] for word in WORDS]
            near += ["\n".join(lines[:at] + [" ".join(one)] + lines[at + 1:]) for one in changed]
    return near


def signs_otherwise(text):
    """Return texts near a text: signs left out, doubled and put otherwise."""
    near = []
    for at in range(len(text)):
        near += [text[:at] + text[at + 1:], text[:at] + text[at] + text[at:]]
        near += [text[:at] + sign + text[at + 1:] for sign in " \n0az9A~"]
    return near


class CodeText(Asks):

    def test_the_example(self):
        self.assertEqual(code_text(Code(("a", "b"), "a", [("a", "b", 5)])), "places a b\ndoor a\na b 5")
        self.assertEqual(code_text(example()), TEXT)

    def test_no_jumps(self):
        self.assertEqual(code_text(single()), "places a\ndoor a")

    def test_seven_places_and_twelve_jumps(self):
        lines = code_text(ring(2)).split("\n")
        self.assertEqual(len(lines), 14)
        self.assertEqual(lines[0], "places a b c d e f g")
        self.assertEqual(lines[-1], "e f 1")

    def test_each_price(self):
        for price in range(21):
            code = Code(("z",), "z", [("z", "z", price)])
            self.assertEqual(code_text(code), f"places z\ndoor z\nz z {price}")

    def test_the_door_that_is_told(self):
        for door in "abcdefg":
            self.assertEqual(code_text(Code(ring().places, door, ring().jumps)).split("\n")[1], "door " + door)


class ThereAndBack(Asks):

    def test_the_code_of_the_text_of_a_code(self):
        for code in some_codes():
            told = read_code(code_text(code))
            self.assertIs(told.__class__, Code)
            self.assertEqual(told, code)
            self.assertEqual(code_text(told), code_text(code))

    def test_each_price_is_an_integer(self):
        for price in range(21):
            told = read_code(f"places a\ndoor a\na a {price}").jumps
            self.assertEqual(told, (("a", "a", price),))
            self.assertIs(told[0][2].__class__, int)

    def test_words_that_the_text_has_itself(self):
        code = Code(("door", "places"), "places", [("places", "door", 0), ("door", "places", 20)])
        self.assertEqual(read_code("places door places\ndoor places\nplaces door 0\ndoor places 20"), code)
        self.assertEqual(read_code(code_text(code)), code)

    def test_words_of_eight_letters(self):
        text = "places abcdefgh zzzzzzzz\ndoor zzzzzzzz\nzzzzzzzz abcdefgh 20"
        self.assertEqual(read_code(text).places, ("abcdefgh", "zzzzzzzz"))


class WrongTexts(Asks):

    def bad_line(self, line, text):
        self.refused_with(BadText, "line", line, read_code, text)

    def test_values_that_are_no_strings(self):
        for value in every_kind() + [Alike(), TEXT.encode(), [TEXT], (TEXT,), TEXT.split("\n")]:
            if not isinstance(value, str):
                self.refused_with(BadText, "line", None, read_code, value)

    def test_strings_of_every_kind(self):
        for value in every_kind():
            if isinstance(value, str):
                self.bad_line(1, value)

    def test_one_line(self):
        for text in ["places a", "places a b", "places a b c d e f g"]:
            self.bad_line(2, text)
        for text in ["", " ", "places", "places ", "door a", "a a 1", "places b a", "places a a", "Places a"]:
            self.bad_line(1, text)

    def test_places(self):
        for line in ["places a b c d e f g h", "places  a", "places a ", " places a", "places a  b", "places abcdefghi",
                     "places A", "places a1", "places a\t", "places\ta", "places a,b", "places ab aa", "places a\r",
                     "place a", ""]:
            self.bad_line(1, line + "\ndoor a\na a 1")
            self.bad_line(1, line)

    def test_doors(self):
        for line in ["", "door", "door ", "door c", "door a b", "door  a", " door a", "door a ", "a", "Door a", "doora",
                     "door A", "a b 1", "places a b", "door\ta"]:
            self.bad_line(2, "places a b\n" + line)
            self.bad_line(2, "places a b\n" + line + "\na b 1")
            self.bad_line(2, "places a b\n" + line + "\n\n")

    def test_jumps(self):
        for line in ["", " ", "a", "a b", "a b 5 ", " a b 5", "a  b 5", "a b  5", "a b 05", "a b 00", "a b +5",
                     "a b -1", "a b -0", "a b 21", "a b 100", "a c 5", "c b 5", "a b 5 5", "a b a", "a b", "A b 5",
                     "a b 5.0", "a b 0x5", "a b 1_0", "a b " + "1" * 5000, "a b " + "9" * 29900, "a\tb 5", "a b\t5",
                     "door a", "places a b", "a b \u0665", "a b \u00b2", "a b 5\r"]:
            self.bad_line(3, "places a b\ndoor a\n" + line)
            self.bad_line(4, "places a b\ndoor a\na b 1\n" + line)
            self.bad_line(4, "places a b\ndoor a\na b 1\n" + line + "\n" + line)
            self.bad_line(14, "places a b\ndoor a\n" + "a b 1\n" * 11 + line)

    def test_a_line_feed_at_the_end(self):
        self.bad_line(7, TEXT + "\n")
        self.bad_line(3, "places a\ndoor a\n")
        self.bad_line(2, "places a\n")
        self.bad_line(1, "\n")
        self.bad_line(1, "\n" * 30000)

    def test_as_many_lines_as_there_may_be_and_one_more(self):
        text = "places a\ndoor a" + "\na a 1" * 12
        self.assertEqual(len(read_code(text)), 12)
        for line in ["a a 1", "", "a a 21", "x"]:
            self.bad_line(15, text + "\n" + line)
            self.bad_line(15, text + "\n" + line + "\n" + line)
        self.bad_line(15, "places a b\ndoor a" + "\na a 1" * 13)
        self.bad_line(15, "places a\ndoor a" + "\na a 1" * 4900)
        self.bad_line(14, "places a\ndoor a" + "\na a 1" * 11 + "\na a 01\na a 1")

    def test_places_that_are_not_come_to(self):
        for text in ["places a b\ndoor a", "places a b\ndoor b", "places a b\ndoor a\nb a 1",
                     "places a b\ndoor a\na a 1", "places a b c\ndoor a\na b 1\nc b 1",
                     "places a b\ndoor a" + "\na a 1" * 12]:
            self.refused_with(BadCode, "place", "reach", read_code, text)

    def test_wrong_lines_ahead_of_places_that_are_not_come_to(self):
        self.bad_line(3, "places a b\ndoor a\n")
        self.bad_line(4, "places a b\ndoor a\nb a 1\na b 21")
        self.bad_line(15, "places a b\ndoor a" + "\nb b 1" * 13)

    def read_like_the_words(self, text):
        line = wrong_line_by_words(text)
        if line is not None:
            self.bad_line(line, text)
            return
        try:
            self.assertEqual(code_text(read_code(text)), text)
        except BadCode as error:
            self.assertEqual(error.place, "reach")

    def test_texts_with_lines_otherwise(self):
        for code in some_codes():
            for text in lines_otherwise(code_text(code)):
                self.read_like_the_words(text)

    def test_texts_with_parts_otherwise(self):
        for code in [example(), single(), crossing(), nesting()] + small_codes(6) + large_codes(1):
            for text in parts_otherwise(code_text(code)):
                self.read_like_the_words(text)

    def test_texts_with_signs_otherwise(self):
        for code in [example(), single(), whole("abc")] + small_codes(6) + large_codes(1):
            for text in signs_otherwise(code_text(code)):
                self.read_like_the_words(text)


class LoopText(Asks):

    def test_the_example(self):
        self.assertEqual([loop_text(example(), loop) for loop in loops(example())], ["b>c>b", "b>c>b"])
        code = Code(("a", "b"), "a", [("a", "b", 1), ("b", "a", 1)])
        self.assertEqual(loop_text(code, (0, 1)), "a>b>a")

    def test_a_jump_to_the_place_itself(self):
        self.assertEqual(loop_text(Code(("here",), "here", [("here", "here", 1)]), (0,)), "here>here")

    def test_the_order_is_that_of_the_jumps(self):
        code = Code(("a", "b", "c"), "a", [("c", "b", 1), ("a", "c", 1), ("b", "a", 1)])
        self.assertEqual(loop_text(code, (0, 2, 1)), "c>b>a>c")
        self.assertEqual(loop_text(ring(), tuple(range(7))), "a>b>c>d>e>f>g>a")

    def test_by_the_words(self):
        for code in some_codes():
            for loop in loops_by_words(code):
                stops = [code.jumps[loop[0]][0]] + [code.jumps[number][1] for number in loop]
                self.assertEqual(loop_text(code, loop), ">".join(stops))

    def test_values_of_every_kind(self):
        for value in every_kind() + [Alike(), (2, 1), [1, 2], (1, 2, 1), (1,), (1, 2, 1, 3), (1, True), "b>c>b"]:
            self.refused_as_is(BadLoop, "value", value, loop_text, example(), value)
            self.refused_as_is(BadLoop, "value", value, loop_text, single(), value)

    def test_values_near_loops(self):
        for code in [example(), nesting(), crossing(), whole("abc")]:
            for loop in loops_by_words(code):
                for value in otherwise(loop, few_kinds()):
                    if not is_in(value, loops_by_words(code)):
                        self.refused_as_is(BadLoop, "value", value, loop_text, code, value)
