"""A console: commands and answers in words."""

from poleslips.checks import check_pull, check_pull_from, check_start
from poleslips.errors import InvalidCommand, InvalidSyntax
from poleslips.keeping import kept_pulls
from poleslips.losses import first_loss, first_risk
from poleslips.places import final_places, places
from poleslips.plays import play
from poleslips.quickest import quickest_drive
from poleslips.texts import format_drive, format_stretches, number_in, parse_drive, parse_wheel

# How many numbers stand behind the first word of a command.
NUMBERS = {"loads": 2, "start": 2, "at": 1, "kept": 1, "final": 0, "play": 1, "risk": 0, "loss": 0, "quick": 1}


def answer_of(text):
    """A text as an answer."""
    return text if text else "none"


def answer_of_number(number):
    """A number or None as an answer."""
    return "none" if number is None else f"{number}"


def answer_of_numbers(numbers):
    """A list of numbers as an answer."""
    return answer_of(" ".join([f"{number}" for number in numbers]))


def numbers_of(words):
    """The numbers behind the first word of a command."""
    if len(words) - 1 != NUMBERS.get(words[0]):
        raise InvalidCommand("no command has this form")
    numbers = [number_in(word) for word in words[1:]]
    if None in numbers:
        raise InvalidCommand("a word is not a number")
    return numbers


def wheel_of(words):
    """The wheel behind the first word of a command."""
    try:
        return parse_wheel(" ".join(words[1:]))
    except InvalidSyntax:
        raise InvalidCommand("the words are not the text of a wheel") from None


def drive_of(words):
    """The drive behind the first word of a command."""
    if "" in words:
        raise InvalidCommand("a word is empty")
    try:
        return parse_drive(" ".join(words[1:]))
    except InvalidSyntax:
        raise InvalidCommand("the words are not the text of a drive") from None


class Console:
    """A wheel, loads, a start and a drive, and what is told of them."""

    def __init__(self):
        self._wheel = (400, 100)
        self._low = 10
        self._high = 20
        self._start = (0, 0)
        self._drive = []

    def execute(self, command):
        """Carry out a command and return its answer."""
        if not isinstance(command, str):
            raise InvalidCommand("a command is a string")
        words = command.split(" ")
        if words[0] == "wheel":
            self._wheel = wheel_of(words)
            self._start = (0, 0)
            self._drive = []
            return "ok"
        if words[0] == "drive":
            self._drive = drive_of(words)
            return "ok"
        numbers = numbers_of(words)
        if words[0] == "loads":
            return self.set_loads(numbers[0], numbers[1])
        if words[0] == "start":
            return self.set_start(numbers[0], numbers[1])
        if numbers:
            return self.answer_with(words[0], numbers[0])
        return self.answer(words[0])

    def set_loads(self, low, high):
        """Set the loads."""
        check_pull(low)
        check_pull_from(high, low)
        self._low = low
        self._high = high
        return "ok"

    def set_start(self, least, greatest):
        """Set the start."""
        check_start(self._wheel, (least, greatest))
        self._start = (least, greatest)
        return "ok"

    def answer_with(self, word, number):
        """The answer to a command with one number."""
        least = self._start[0]
        if word == "at":
            told = places(self._wheel, self._low, self._high, self._start, self._drive, number)
            return answer_of(format_stretches(told))
        if word == "kept":
            return answer_of(format_stretches(kept_pulls(self._wheel, least, self._drive, number)))
        if word == "play":
            return answer_of_numbers([row[1] for row in play(self._wheel, number, least, self._drive)])
        return answer_of(format_drive(quickest_drive(self._wheel, self._low, least, number)))

    def answer(self, word):
        """The answer to a command of one word."""
        if word == "final":
            return answer_of_numbers(final_places(self._wheel, self._low, self._high, self._start, self._drive))
        if word == "risk":
            return answer_of_number(first_risk(self._wheel, self._low, self._high, self._start, self._drive))
        return answer_of_number(first_loss(self._wheel, self._low, self._high, self._start, self._drive))
