"""Points [36] and [37]: a console."""

import random
import unittest

from poleslips.console import Console
from poleslips.errors import (
    InvalidCommand, InvalidDrive, InvalidNumber, InvalidPull, InvalidStart, InvalidTick, InvalidWheel, WheelError,
)
from poleslips.keeping import kept_pulls
from poleslips.losses import first_loss, first_risk
from poleslips.places import final_places, places
from poleslips.plays import play
from poleslips.quickest import quickest_drive
from poleslips.texts import format_drive, format_stretches, format_wheel
from support import HUGE, NO_NUMBERS, SIXTY, outcome

MOST = 10 ** 30 - 1


def told_by(console):
    """Answers that show the wheel, the loads, the start and the drive."""
    return [outcome(console.execute, [command]) for command in (
        "at 0", "at 1", "at 3", "at 9", "kept 60", "final", "play 7", "play 60", "risk", "loss", "quick 7", "quick 60",
    )]


def with_all(commands):
    console = Console()
    for command in commands:
        assert console.execute(command) == "ok"
    return console


class Commands(unittest.TestCase):
    def test_a_new_console(self):
        console = Console()
        self.assertEqual([console.execute(command) for command in ("at 0", "at 9", "final", "risk", "loss", "kept 5",
                                                                   "play 5", "quick 0", "quick 4")],
                         ["0", "0", "0", "none", "none", "0..5", "none", "none", "0+2 10+1 20+1"])
        console = with_all(["drive 0+1"])
        self.assertEqual([console.execute(command) for command in ("at 1", "at 4", "at 7", "at 12")],
                         ["10..20", "40..80", "70..100", "100"])
        for command in ("at 3", "play 4", "drive 0+1"):
            self.assertIs(type(Console().execute(command)), str)

    def test_against_the_functions(self):
        chosen = random.Random(36)
        told = set()
        for _ in range(400):
            size = chosen.choice([3, 8, 20, 401, 10 ** 28])
            wheel = (size, chosen.randrange(1, (size - 1) // 2 + 1))
            low = chosen.randrange(0, size // 2 + 1)
            high = low + chosen.randrange(size)
            start = tuple(sorted(chosen.randrange(-(size // 2), (size + 1) // 2) for _ in range(2)))
            drive = [(tick, chosen.choice([-2, -1, 1, 1, 3]))
                     for tick in sorted(chosen.sample(range(20), chosen.randrange(6)))]
            console = with_all(["wheel " + format_wheel(wheel), f"loads {low} {high}", f"start {start[0]} {start[1]}",
                                ("drive " + format_drive(drive)).strip()])
            tick, most, pull = chosen.randrange(25), chosen.randrange(2 * size), chosen.randrange(size)
            steps = chosen.randrange(61)
            ways = wheel, low, high, start, drive
            risk, loss = first_risk(*ways), first_loss(*ways)
            for command, answer in [
                (f"at {tick}", format_stretches(places(*ways, tick))),
                (f"kept {most}", format_stretches(kept_pulls(wheel, start[0], drive, most)) or "none"),
                ("final", " ".join(str(place) for place in final_places(*ways))),
                (f"play {pull}", " ".join(str(row[1]) for row in play(wheel, pull, start[0], drive)) or "none"),
                ("risk", "none" if risk is None else str(risk)), ("loss", "none" if loss is None else str(loss)),
            ]:
                self.assertEqual(console.execute(command), answer, (ways, command))
                told.add(command.split(" ")[0] + (" none" if answer == "none" else ""))
            if low == 0:
                self.assertEqual(outcome(console.execute, [f"quick {steps}"]), (InvalidPull, {}))
            else:
                answer = format_drive(quickest_drive(wheel, low, start[0], steps)) or "none"
                self.assertEqual(console.execute(f"quick {steps}"), answer)
        self.assertLessEqual({"kept none", "kept", "play none", "risk none", "risk", "loss none", "loss"}, told)

    def test_what_each_command_sets(self):
        console = with_all(["loads 20 30", "start -5 7", "drive 0+2 4+1"])
        self.assertEqual(console.execute("at 4"), "-125..-81 80..127")
        self.assertEqual(console.execute("start 3 3"), "ok")
        self.assertEqual(console.execute("at 4"), "83..123")
        self.assertEqual(console.execute("loads 25 25"), "ok")
        self.assertEqual(console.execute("at 4"), "103")
        self.assertEqual(console.execute("drive 0-1"), "ok")
        self.assertEqual(console.execute("at 4"), "-97")
        self.assertEqual(console.execute("drive"), "ok")
        self.assertEqual((console.execute("at 4"), console.execute("final")), ("0", "0"))
        # A wheel begins anew, but the loads stay.
        self.assertEqual(console.execute("drive 0+1"), "ok")
        self.assertEqual(console.execute("wheel 401/90"), "ok")
        commands = ("at 1", "play 5", "drive 0+1", "at 1", "at 2", "final")
        self.assertEqual([console.execute(command) for command in commands], ["0", "none", "ok", "25", "50", "90"])

    def test_the_least_place_of_the_start(self):
        console = with_all(["start -50 60", "loads 20 30", "drive 0+1 3+1"])
        self.assertEqual(console.execute("play 20"), "-50 10")
        kept = kept_pulls((400, 100), -50, [(0, 1), (3, 1)], 100)
        self.assertEqual(console.execute("kept 100"), format_stretches(kept))
        self.assertEqual(console.execute("quick 4"), format_drive(quickest_drive((400, 100), 20, -50, 4)))

    def test_none_and_zero(self):
        # An index 0 is not None, and a place 0 is not an empty list.
        console = with_all(["drive 0+3"])
        self.assertEqual([console.execute(command) for command in ("risk", "loss", "kept 400", "play 9")],
                         ["0", "0", "none", "0"])
        console = with_all(["drive 0+1"])
        self.assertEqual([console.execute(command) for command in ("risk", "loss", "kept 0", "play 0")],
                         ["none", "none", "0", "0"])

    def test_a_drive_of_sixty_items(self):
        console = with_all(["drive " + format_drive(SIXTY)])
        self.assertEqual(console.execute("play 20"), " ".join(str(row[1]) for row in play((400, 100), 20, 0, SIXTY)))
        self.assertEqual(outcome(console.execute, ["drive " + format_drive(SIXTY) + " 180+1"]), (InvalidCommand, {}))
        self.assertEqual(len(console.execute("play 20").split(" ")), 60)

    def test_numbers_of_30_digits(self):
        console = with_all([f"wheel {MOST}/{MOST // 3}", f"loads 0 {MOST}", f"start {-(MOST // 2)} {MOST // 2}",
                            f"drive {MOST}+{MOST}"])
        self.assertEqual(console.execute(f"at {MOST - 1}"), f"{-(MOST // 2)}..{MOST // 2}")
        self.assertEqual(console.execute(f"play {MOST}"), "0")

    def test_two_consoles(self):
        one, other = Console(), Console()
        before = told_by(other)
        for command in ("wheel 5/2", "loads 1 2", "start -1 1", "drive 0+1 3+1"):
            one.execute(command)
            self.assertEqual(told_by(other), before)
        self.assertEqual(told_by(one), told_by(with_all(["wheel 5/2", "loads 1 2", "start -1 1", "drive 0+1 3+1"])))
        self.assertNotEqual(told_by(one), before)
        self.assertEqual(told_by(Console()), before)

    def test_the_method_stands_in_the_class(self):
        self.assertTrue(callable(vars(Console)["execute"]))
        self.assertEqual(Console.__module__, "poleslips.console")
        self.assertEqual(Console().execute(command="at 0"), "0")


class Errors(unittest.TestCase):
    SET = ["wheel 400/90", "loads 15 25", "start -20 30", "drive 0+2 3-1 9+1"]

    def check(self, command, error):
        """A command that raises an error changes nothing."""
        console = with_all(self.SET)
        before = told_by(console)
        self.assertEqual(outcome(console.execute, [command]), error, command)
        self.assertTrue(issubclass(error[0], WheelError))
        self.assertEqual(told_by(console), before, command)

    def test_no_strings(self):
        for value in NO_NUMBERS + [5, ["at", "1"], ("at 1",), b"at 1", {"at 1": 1}]:
            if not isinstance(value, str):
                self.check(value, (InvalidCommand, {}))

    def test_no_command(self):
        words = ["", " ", "  ", "\n", "x", "At 1", "AT 1", "at1", "at:1", "help", "quit", "ok", "none", "tick 1", "1",
                 "at\n1", "at 1\n", "\nat 1", "risk\n", "places 1", "slips 20", "undo", "wait 5", "turn 1 5", "steps 3",
                 "home 4"]
        for command in words:
            self.check(command, (InvalidCommand, {}))

    def test_words_missing_in_excess_and_empty(self):
        forms = ["wheel 400/100", "loads 10 20", "start 0 0", "drive 0+1", "drive 0+1 3+1", "at 4", "kept 100", "final",
                 "play 20", "risk", "loss", "quick 4", "drive"]
        for form in forms:
            Console().execute(form)
            words = form.split(" ")
            wrong = [form + " ", " " + form, form + " x", form + " 5", form + "  ", form + " 0+0", "x " + form]
            wrong += [" ".join(words[:at] + [""] + words[at:]) for at in range(len(words) + 1)]
            if words[0] != "drive":
                wrong += [" ".join(words[:at] + words[at + 1:]) for at in range(len(words))]
            for command in wrong:
                self.check(command, (InvalidCommand, {}))

    def test_words_that_are_no_numbers(self):
        for word in ["-0", "00", "01", "+1", "-01", "--1", "-", "a", "1a", "1.0", "1e3", "0x1", "1_0", "1,0", "\n1",
                     "1\n", "9" * 31, "-" + "9" * 31, "None", "0+1", "5/2", "1*2", "1..2", "none"]:
            for command in (f"at {word}", f"kept {word}", f"play {word}", f"quick {word}", f"loads {word} 5",
                            f"loads 5 {word}", f"start {word} 5", f"start 5 {word}", f"loads {word} {word}"):
                self.check(command, (InvalidCommand, {}))

    def test_texts_of_wheels_and_drives(self):
        for word in ["400/200", "2/1", "400", "400/", "/100", "-400/100", "400/100/1", "0400/100", "400/100 1", "x",
                     "-0/1", "400 / 100", "9" * 31 + "/1"]:
            self.check(f"wheel {word}", (InvalidCommand, {}))
        for words in ["0+0", "0", "+1", "0+1 0+1", "5+1 4+1", "-1+1", "0+1 x", "x 0+1", "0+01", "0*1", "0+1  3+1",
                      " 0+1", "0+1 ", "", "[]", "none", "0+1\n3+1", "0+" + "9" * 31]:
            self.check(f"drive {words}", (InvalidCommand, {}))

    def test_errors_of_loads_and_start(self):
        for low, high in ((20, 10), (-1, 5), (5, -1), (-1, -1), (0, -1), (1, 0), (MOST, MOST - 1), (-MOST, MOST)):
            self.check(f"loads {low} {high}", (InvalidPull, {}))
        for least, greatest, index in ((300, 400, 0), (-201, 0, 0), (200, 200, 0), (200, 0, 0), (0, 200, 1), (5, 4, 1),
                                       (-200, 200, 1), (0, -201, 1), (MOST, MOST, 0), (0, MOST, 1), (-201, 200, 0)):
            self.check(f"start {least} {greatest}", (InvalidStart, {"index": index}))
        # The wheel tells which starts there are.
        console = with_all(["wheel 5/2"])
        self.assertEqual(outcome(console.execute, ["start -3 0"]), (InvalidStart, {"index": 0}))
        self.assertEqual(outcome(console.execute, ["start -2 3"]), (InvalidStart, {"index": 1}))
        self.assertEqual(console.execute("start -2 2"), "ok")

    def test_errors_of_the_functions(self):
        for command, kind in [("at -1", InvalidTick), (f"at -{MOST}", InvalidTick), ("kept -1", InvalidNumber),
                              ("play -1", InvalidPull), ("quick -1", InvalidNumber), ("quick 61", InvalidNumber),
                              (f"quick {MOST}", InvalidNumber)]:
            self.check(command, (kind, {}))
        console = with_all(["loads 0 5"])
        for command in ("quick 3", "quick 0", "quick 61", "quick -1"):
            self.assertEqual(outcome(console.execute, [command]), (InvalidPull, {}))
        self.assertEqual((console.execute("at 3"), console.execute("loads 1 5"), console.execute("quick 1")),
                         ("0", "ok", "0+1"))

    def test_no_other_errors(self):
        # Neither a wheel nor a drive that is set is ever wrong.
        for kind in (InvalidWheel, InvalidDrive):
            for command in ("wheel 2/1", "drive 5+1 4+1"):
                self.assertNotEqual(outcome(Console().execute, [command])[0], kind)

    def test_huge_answers(self):
        console = with_all([f"drive {HUGE}+{HUGE}"])
        self.assertEqual(console.execute(f"at {HUGE}"), "0")


if __name__ == "__main__":
    unittest.main()
