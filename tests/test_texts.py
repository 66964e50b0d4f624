"""Points [34] and [35]: texts, and what is read from them."""

import random
import unittest

from poleslips.errors import InvalidSyntax
from poleslips.texts import (
    format_drive, format_loads, format_stretches, format_wheel, parse_drive, parse_loads, parse_wheel,
)
from support import GOOD_DRIVES, GOOD_WHEELS, HUGE, LOADS_400, NO_NUMBERS, SIXTY, outcome

MOST = 10 ** 30 - 1  # the greatest number of 30 digits
PARSERS = (parse_wheel, parse_drive, parse_loads)

# Words that are no number from 0 on.
NO_NATURALS = [
    "", "-", "+", "-0", "+0", "00", "01", "007", "-1", "-5", "--1", "+1", "1-", "1+", "a", "1a", "a1", "0x1", "1e5",
    "1.0", "1,000", "1_000", "1 ", " 1", "\n1", "1\n", "\n", "(1)", "1/1", "*", "1*", "*1", "1**2", "None", "True", "o",
    "l",
    "9" * 31, "1" + "0" * 30, "0" * 30, "-" + "9" * 30,
]


class There(unittest.TestCase):
    """Each text and back."""

    def check(self, told, text, parse, value):
        self.assertEqual(told, text)
        self.assertIs(type(told), str)
        back = parse(text)
        self.assertEqual(back, value)
        self.assertIs(type(back), type(value))
        for item in back:
            self.assertIn(type(item), (int, tuple))
            if isinstance(item, tuple):
                self.assertEqual([type(number) for number in item], [int, int])

    def test_wheels(self):
        for wheel in GOOD_WHEELS:
            self.check(format_wheel(wheel), "/".join(str(number) for number in wheel), parse_wheel, wheel)

    def test_drives(self):
        for drive in GOOD_DRIVES + [[(MOST, MOST)], [(0, -MOST)], [(0, 1), (10, -1), (MOST, 2)]]:
            words = [str(tick) + ("+" if turn > 0 else "-") + str(abs(turn)) for tick, turn in drive]
            self.check(format_drive(drive), " ".join(words), parse_drive, drive)

    def test_loads(self):
        for loads in [[], [(0, 1)], [(0, 2)], [(20, 4), (25, 1), (0, 1)], [(MOST, MOST)], [(MOST, 1)], [(5, 11)] * 400,
                      LOADS_400, [(20, 4)] * 2]:
            words = [str(pull) if ticks == 1 else str(pull) + "*" + str(ticks) for pull, ticks in loads]
            self.check(format_loads(loads), " ".join(words), parse_loads, loads)

    def test_stretches(self):
        for stretches, text in [
            ([], ""), ([(0, 0)], "0"), ([(-1, -1)], "-1"), ([(-1, 0)], "-1..0"), ([(0, 1), (3, 3)], "0..1 3"),
            ([(-90, -80), (14, 14), (34, 100)], "-90..-80 14 34..100"), ([(-MOST, MOST)], f"-{MOST}..{MOST}"),
            ([(-5, -5), (-3, -3), (7, 7)], "-5 -3 7"),
        ]:
            self.assertEqual(format_stretches(stretches), text)
        self.assertEqual(format_stretches(stretches=[(1, 2)]), "1..2")

    def test_any_texts(self):
        chosen = random.Random(34)
        for _ in range(500):
            digits = chosen.choice([1, 2, 5, 30])
            some = [chosen.randrange(10 ** digits) for _ in range(chosen.randrange(1, 60))]
            ticks = sorted(set(some))
            drive = [(tick, (chosen.choice([-1, 1]) * chosen.randrange(1, 10 ** digits))) for tick in ticks]
            self.assertEqual(parse_drive(format_drive(drive)), drive)
            loads = [(pull, chosen.choice([1, 2, chosen.randrange(1, 10 ** digits)])) for pull in some]
            self.assertEqual(parse_loads(format_loads(loads)), loads)

    def test_numbers_of_4000_digits(self):
        # A number of more than 30 digits has a text, but no text is read as one.
        great = 10 ** 3999 + 7
        word = "1" + "0" * 3998 + "7"
        self.assertEqual(len(word), 4000)
        self.assertEqual(format_wheel((great, 3)), word + "/3")
        self.assertEqual(format_wheel((great, great // 3)), word + "/" + str(great // 3))
        self.assertEqual(format_drive([(great, -great), (great + 1, great)]),
                         f"{word}-{word} {word[:-1]}8+{word}")
        self.assertEqual(format_loads([(great, great), (great, 1)]), f"{word}*{word} {word}")
        self.assertEqual(format_stretches([(-great, great), (great + 2, great + 2)]),
                         f"-{word}..{word} {word[:-1]}9")
        for digits in (31, 32, 4000):
            text = "1" + "0" * (digits - 1)
            for parse, words in ((parse_wheel, [text + "/3", "3/" + text]), (parse_drive, [text + "+1", "1+" + text]),
                                 (parse_loads, [text, text + "*2", "2*" + text])):
                for one in words:
                    self.assertEqual(outcome(parse, [one]), (InvalidSyntax, {"word": 0}))

    def test_arguments_are_not_changed_and_lists_are_new(self):
        drive, loads, stretches = [(0, 2), (4, -1)], [(20, 4), (25, 1)], [(0, 1), (4, 4)]
        for _ in range(2):
            self.assertEqual((format_drive(drive=drive), format_loads(loads=loads)), ("0+2 4-1", "20*4 25"))
            self.assertEqual((format_stretches(stretches), format_wheel(wheel=(5, 2))), ("0..1 4", "5/2"))
        self.assertEqual((drive, loads, stretches), ([(0, 2), (4, -1)], [(20, 4), (25, 1)], [(0, 1), (4, 4)]))
        for parse, text in ((parse_drive, "0+2 4-1"), (parse_loads, "20*4 25"), (parse_drive, ""), (parse_loads, "")):
            one, other = parse(text=text), parse(text)
            self.assertEqual(one, other)
            self.assertIsNot(one, other)
            kept = list(other)
            one.append((9, 9))
            self.assertEqual(parse(text), kept)


class Wrong(unittest.TestCase):
    def wrong(self, parse, text, word):
        self.assertEqual(outcome(parse, [text]), (InvalidSyntax, {"word": word}), (parse.__name__, text))
        self.assertEqual(outcome(parse, [text], ["text"]), (InvalidSyntax, {"word": word}))

    def test_no_strings(self):
        for value in NO_NUMBERS + [5, (400, 100), [(0, 1)], ["0+1"], b"0+1", ("0+1",), {"0+1": 1}]:
            if not isinstance(value, str):
                for parse in PARSERS:
                    self.wrong(parse, value, None)

    def test_wrong_wheels(self):
        words = [f"{word}/2" for word in NO_NATURALS] + [f"5/{word}" for word in NO_NATURALS] + [
            "", "/", "5", "5/", "/2", "5//2", "5/2/", "/5/2", "5/2/1", "5-2", "5\\2", "400/200", "400/0", "2/1", "0/0",
            "1/1",
            "5/3", "3/2", "3/-1", "-5/2", "400:100", "5/2\n", "\n5/2", "5\n/2", "5+2", "wheel", "(5,2)",
        ]
        for word in words:
            index = 0 if " " not in word or not outcome(parse_wheel, [word.split(" ")[0]])[0] == "returned" else 1
            self.wrong(parse_wheel, word, index)
        for text, index in [("5/2 ", 1), (" 5/2", 0), (" ", 0), ("5/2 5/2", 1), ("5/2 x y", 1), ("5/3 x", 0),
                            ("5/2  ", 1), ("5 / 2", 0), ("5/ 2", 0)]:
            self.wrong(parse_wheel, text, index)
        self.assertEqual(parse_wheel(f"{MOST}/{(MOST - 1) // 2}"), (MOST, (MOST - 1) // 2))

    def test_wrong_words_at_each_place(self):
        drive_words = [word + "+1" for word in NO_NATURALS] + ["1000+" + word for word in NO_NATURALS] + [
            "+", "-", "+1", "-1", "1000", "1000+", "1000-", "1000+0", "1000-0", "1000+-1", "1000-+1", "1000++1",
            "1000--1", "1000+1+1", "1000+1-1", "1000-1+1", "1000*1", "1000 +1", "1000+ 1", "1000+1\n", "1000+\n1",
            "tick", "0x10+1",
            "-1000+1", "1000=1", "1000,1", "(1000,1)",
        ]
        load_words = NO_NATURALS + [word + "*2" for word in NO_NATURALS] + ["20*" + word for word in NO_NATURALS] + [
            "20*0", "20*1", "20*01", "20*-2", "20*2*2", "20*2*", "**", "20x2", "20*2\n", "20+1", "-20*2", "20 *2",
            "20/2",
        ]
        drive, loads = ["0+1", "3-2", "5+1"], ["20*4", "25", "0"]
        for parse, good, words in ((parse_drive, drive, drive_words), (parse_loads, loads, load_words)):
            for word in words:
                for at in range(4):
                    behind = [] if parse is parse_drive else good[at:]
                    text = " ".join(good[:at] + [word] + behind)
                    if text == "":
                        self.assertEqual(parse(text), [])
                        continue
                    # A word with a blank is two words; the first of them may be right.
                    first = word.split(" ")[0]
                    before = " ".join(good[:at] + [first])
                    more = " " in word and before != "" and outcome(parse, [before])[0] == "returned"
                    self.wrong(parse, text, at + 1 if more else at)

    def test_signs_that_only_look_like_digits(self):
        for sign in ("\u00b2", "\u0663", "\uff11"):
            for parse, text in ((parse_wheel, f"400/{sign}"), (parse_drive, f"{sign}+1"), (parse_drive, f"0+{sign}"),
                                (parse_loads, sign), (parse_loads, f"1*{sign}")):
                self.wrong(parse, text, 0)

    def test_the_first_wrong_word_counts(self):
        for parse, text, index in [
            (parse_drive, "0+2 x 4+0", 1), (parse_drive, "x x x", 0), (parse_drive, "0+2 4-1 4-2 x", 2),
            (parse_drive, "5+1 4+1", 1), (parse_drive, "5+1 5+1", 1), (parse_drive, "0+1  3+1", 1),
            (parse_drive, " 0+1", 0), (parse_drive, "0+1 ", 1), (parse_drive, " ", 0), (parse_drive, "  ", 0),
            (parse_drive, "9+1 3+1 x", 1), (parse_drive, f"{MOST}+1 {MOST}+1", 1), (parse_drive, "0+1\n3+1", 0),
            (parse_loads, "20*4 x 25*1", 1), (parse_loads, "x x", 0), (parse_loads, " ", 0), (parse_loads, "20 ", 1),
            (parse_loads, " 20", 0), (parse_loads, "20  20", 1), (parse_loads, "20\n20", 0),
            (parse_loads, "1 2 3*1 4", 2),
        ]:
            self.wrong(parse, text, index)

    def test_the_greatest_number_of_words(self):
        sixty = format_drive(SIXTY).split(" ")
        self.assertEqual(parse_drive(" ".join(sixty)), SIXTY)
        for more in ("180+1", "180+1 181+1", "x", "", "0+1"):
            self.wrong(parse_drive, " ".join(sixty + [more]), 60)
        self.wrong(parse_drive, " ".join(sixty[:59] + ["x", "180+1"]), 59)
        many = ["20*4"] * 400
        self.assertEqual(parse_loads(" ".join(many)), [(20, 4)] * 400)
        for more in ("20", "20 20", "x", "", "20*1"):
            self.wrong(parse_loads, " ".join(many + [more]), 400)
        self.wrong(parse_loads, " ".join(many[:399] + ["x", "20"]), 399)
        self.assertEqual(parse_drive(" ".join(f"{tick}+{HUGE}" for tick in range(60)))[59], (59, HUGE))


if __name__ == "__main__":
    unittest.main()
