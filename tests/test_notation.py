"""Points 16 and 17 and the interface of notation.py."""

import re
import unittest
from itertools import combinations, product

from bitshades.errors import BadText, WrongKind, WrongSize
from bitshades.notation import format_ratio, format_set, format_word, parse_ratio, parse_set, parse_word
from helping import HUGE, Promises, fraction_faults, text_faults, width_faults, word_faults


def fault_position(text, begins):
    """Where point 17 says that a text is at fault; `begins` tells whether it begins an accepted text."""
    for end in range(len(text) + 1):
        if not begins(text[:end]):
            return end - 1
    return len(text)


def beginnings_of(texts):
    """All beginnings of the texts."""
    return {text[:end] for text in texts for end in range(len(text) + 1)}


def all_texts(characters, longest):
    """All texts of the characters, up to a length."""
    for length in range(longest + 1):
        for letters in product(characters, repeat=length):
            yield "".join(letters)


WORDS = {"-": (0, 0)}
for long in range(1, 7):
    for letters in product("01", repeat=long):
        WORDS["".join(letters)] = (long, sum(2**place for place in range(long) if letters[place] == "1"))


def written_sets(width):
    """All written sets of the width, with the sets."""
    found = {"-": 0}
    for count in range(1, width + 1):
        for places in combinations(range(width), count):
            found[",".join(str(place) for place in places)] = sum(2**place for place in places)
    return found


class ReadingTexts(Promises):
    def check_reading(self, parse, text, accepted, begun):
        """The text is read, or refused at the place of point 17."""
        if text in accepted:
            self.same(parse(text), accepted[text])
        else:
            self.bad_text(fault_position(text, lambda part: part in begun), parse, text)


class WordTexts(ReadingTexts):
    def test_example(self):
        self.same(parse_word("001"), (3, 4))

    def test_format(self):
        self.same(format_word(0, 0), "-")
        self.same(format_word(3, 4), "001")
        self.same(format_word(6, 1), "100000")
        self.same(format_word(6, 0), "000000")
        self.same(format_word(6, 63), "111111")
        for text, (width, word) in WORDS.items():
            self.same(format_word(width, word), text)

    def test_parse_all(self):
        for text, word in WORDS.items():
            self.same(parse_word(text), word)

    def test_short_texts(self):
        begun = beginnings_of(WORDS)
        for text in all_texts("01-2 x", 5):
            self.check_reading(parse_word, text, WORDS, begun)

    def test_longer_texts(self):
        begun = beginnings_of(WORDS)
        for text in WORDS:
            for more in ("0", "1", "-", " ", ",", "00", "2", "\n", "\t"):
                self.check_reading(parse_word, text + more, WORDS, begun)
                self.check_reading(parse_word, more + text, WORDS, begun)

    def test_told_positions(self):
        self.bad_text(0, parse_word, "")
        self.bad_text(2, parse_word, "00-0000")
        self.bad_text(6, parse_word, "0000000")
        self.bad_text(6, parse_word, "0101012")
        self.bad_text(6, parse_word, "010101-")
        self.bad_text(5, parse_word, "01010x11")
        self.bad_text(1, parse_word, "--")
        self.bad_text(1, parse_word, "-0")
        self.bad_text(1, parse_word, "0-")
        self.bad_text(0, parse_word, " 01")
        self.bad_text(0, parse_word, "\n")

    def test_two_hundred_characters(self):
        self.bad_text(6, parse_word, "0" * 200)
        self.bad_text(1, parse_word, "-" * 200)
        self.bad_text(0, parse_word, "x" * 200)
        self.refused(WrongSize, "argument", "text", parse_word, "0" * 201)

    def test_arguments(self):
        self.check_function(parse_word, {"text": "0110"}, {"text": text_faults()})
        for width in (0, 3, 6):
            faults = {"width": width_faults(), "word": word_faults(width)}
            self.check_function(format_word, {"width": width, "word": 2**width - 1}, faults)


class SetTexts(ReadingTexts):
    def test_format_and_parse(self):
        for width in range(7):
            for text, chosen in written_sets(width).items():
                self.same(format_set(width, chosen), text)
                self.same(parse_set(width, text), chosen)
        self.same(format_set(6, 63), "0,1,2,3,4,5")
        self.same(format_set(4, 10), "1,3")
        self.same(format_set(0, 0), "-")

    def test_short_texts(self):
        for width in range(7):
            accepted = written_sets(width)
            begun = beginnings_of(accepted)
            for text in all_texts("0125,-", 4):
                self.check_reading(lambda part: parse_set(width, part), text, accepted, begun)
            for text in ("3", "4", "6", "7", "8", "9", "x", " ", " 0", "0 ", "0, 1", "a,b", "0,1,2,3,4,5,6", ",0", "\n"):
                self.check_reading(lambda part: parse_set(width, part), text, accepted, begun)

    def test_one_wrong_character(self):
        accepted = written_sets(6)
        begun = beginnings_of(accepted)
        for text in accepted:
            for index in range(len(text) + 1):
                for wrong in "0369,-/ ":
                    self.check_reading(lambda part: parse_set(6, part), text[:index] + wrong, accepted, begun)
                    changed = text[:index] + wrong + text[index + 1 :]
                    self.check_reading(lambda part: parse_set(6, part), changed, accepted, begun)

    def test_told_positions(self):
        self.bad_text(0, parse_set, 3, "")
        self.bad_text(0, parse_set, 3, "3")
        self.bad_text(1, parse_set, 3, "2,")
        self.bad_text(2, parse_set, 3, "0,")
        self.bad_text(2, parse_set, 3, "1,0")
        self.bad_text(2, parse_set, 3, "1,1")
        self.bad_text(2, parse_set, 3, "0,3")
        self.bad_text(1, parse_set, 3, "01")
        self.bad_text(1, parse_set, 3, "-0")
        self.bad_text(1, parse_set, 3, "--")
        self.bad_text(0, parse_set, 0, "")
        self.bad_text(0, parse_set, 0, "0")
        self.bad_text(1, parse_set, 0, "-,")
        self.bad_text(1, parse_set, 1, "0,")
        self.bad_text(11, parse_set, 6, "0,1,2,3,4,5,")
        self.bad_text(10, parse_set, 6, "0,1,2,3,4,6")

    def test_two_hundred_characters(self):
        self.bad_text(1, parse_set, 6, "0" * 200)
        self.bad_text(0, parse_set, 6, "," * 200)
        self.refused(WrongSize, "argument", "text", parse_set, 6, "-" * 201)

    def test_arguments(self):
        for width in (0, 3, 6):
            faults = {"width": width_faults(), "chosen": word_faults(width)}
            self.check_function(format_set, {"width": width, "chosen": 2**width - 1}, faults)
            faults = {"width": width_faults(), "text": text_faults()}
            self.check_function(parse_set, {"width": width, "text": "-"}, faults)

    def test_width_before_the_text(self):
        self.refused(WrongKind, "argument", "width", parse_set, None, "x" * 300)
        self.refused(WrongKind, "argument", "width", parse_set, True, "")


NUMBER = "[1-9][0-9]{0,8}"
FULL_RATIO = re.compile(f"(0|-?{NUMBER})/{NUMBER}")
BEGUN_RATIO = re.compile(f"-?|(0|-?{NUMBER})(/({NUMBER})?)?")


class RatioTexts(Promises):
    def check_text(self, text):
        if FULL_RATIO.fullmatch(text):
            top, bottom = text.split("/")
            got = parse_ratio(text)
            self.assertEqual(got[0] * int(bottom), got[1] * int(top))
            self.same(format_ratio((int(top), int(bottom))), format_ratio(got))
        else:
            position = fault_position(text, lambda part: BEGUN_RATIO.fullmatch(part) is not None)
            self.bad_text(position, parse_ratio, text)

    def test_example(self):
        self.same(parse_ratio("-4/6"), (-2, 3))

    def test_read(self):
        self.same(parse_ratio("0/1"), (0, 1))
        self.same(parse_ratio("0/999999999"), (0, 1))
        self.same(parse_ratio("999999999/999999998"), (999999999, 999999998))
        self.same(parse_ratio("-999999999/999999999"), (-1, 1))
        self.same(parse_ratio("123456789/10"), (123456789, 10))
        self.same(parse_ratio("10/4"), (5, 2))
        self.same(parse_ratio("100/1000"), (1, 10))

    def test_short_texts(self):
        for text in all_texts("019/- x", 4):
            self.check_text(text)
        for text in all_texts("01/-", 6):
            self.check_text(text)

    def test_long_numbers(self):
        for sign in ("", "-"):
            for long in range(1, 12):
                for short in range(1, 12):
                    text = sign + "1203456789876"[:long] + "/" + "9080706050403"[:short]
                    self.check_text(text)
                    for index in range(len(text)):
                        self.check_text(text[:index])
                        self.check_text(text[:index] + "x" + text[index + 1 :])
                        self.check_text(text[:index] + "/" + text[index + 1 :])
                        self.check_text(text[:index] + "-" + text[index + 1 :])
                    for more in ("/", "0", " ", "-", "x", "\n"):
                        self.check_text(text + more)

    def test_told_positions(self):
        told = {
            "": 0, "-": 1, "-0": 1, "-0/1": 1, "0": 1, "00": 1, "00/1": 1, "01/2": 1, "0/": 2, "0/0": 2, "1/0": 2,
            "1/02": 2, "1/": 2, "1/-2": 2, "--1/2": 1, "1234567890/1": 9, "-1234567890/1": 10, "1/1234567890": 11,
            "1/2/": 3, "1/2 ": 3, " 1/2": 0, "+1/2": 0, "1 /2": 1, "1//2": 2, "/2": 0, "-/2": 1, "12": 2,
        }
        for text, position in told.items():
            self.bad_text(position, parse_ratio, text)

    def test_two_hundred_characters(self):
        self.bad_text(9, parse_ratio, "1" * 200)
        self.bad_text(0, parse_ratio, "x" * 200)
        self.refused(WrongSize, "argument", "text", parse_ratio, "1" * 201)

    def test_format(self):
        self.same(format_ratio((0, 5)), "0/1")
        self.same(format_ratio((6, 4)), "3/2")
        self.same(format_ratio((-6, 4)), "-3/2")
        self.same(format_ratio((10, 5)), "2/1")
        self.same(format_ratio((100, 1)), "100/1")
        self.same(format_ratio((-HUGE, 1)), f"-{HUGE}/1")
        self.same(format_ratio((1, HUGE)), f"1/{HUGE}")
        self.same(format_ratio((3 * HUGE, 6 * HUGE)), "1/2")

    def test_format_of_four_thousand_digits(self):
        long = 10**3999 + 1
        self.same(format_ratio((long, 1)), f"{long}/1")
        self.same(format_ratio((-1, long)), f"-1/{long}")

    def test_read_back(self):
        for top in range(-40, 41):
            for bottom in range(1, 20):
                self.same(format_ratio(parse_ratio(format_ratio((top, bottom)))), format_ratio((top, bottom)))

    def test_arguments(self):
        self.check_function(format_ratio, {"fraction": (6, 4)}, {"fraction": fraction_faults()})
        self.check_function(parse_ratio, {"text": "6/4"}, {"text": text_faults()})


class Characters(unittest.TestCase):
    def test_written_forms_are_plain(self):
        for text in (format_word(6, 5), format_set(6, 37), format_ratio((-5, 6)), format_word(0, 0), format_set(3, 0)):
            self.assertTrue(all(" " <= character <= "~" for character in text))

    def test_every_other_character_is_at_fault(self):
        plain = [chr(code) for code in range(32, 127)] + ["\t", "\n"]
        for character in plain:
            self.check_refused(parse_word, character, "01-")
            self.check_refused(lambda text: parse_set(6, text), character, "012345-")
            if character not in "-0123456789":
                self.check_refused(parse_ratio, character, "")

    def check_refused(self, parse, character, accepted):
        if character not in accepted:
            with self.assertRaises(BadText) as caught:
                parse(character)
            self.assertEqual(caught.exception.position, 0)
        else:
            parse(character)


if __name__ == "__main__":
    unittest.main()
