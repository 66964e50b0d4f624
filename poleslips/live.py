"""A live wheel, which is told the turns and pulls one by one."""

from poleslips.checks import check_beginning, check_number, check_pull, check_wheel, is_number_from
from poleslips.errors import InvalidNumber, InvalidTick, NothingToUndo
from poleslips.motion import aim_at, lost_at, moved, ticks_to_aim


class Follower:
    """A wheel behind the calls that it was told; each of them can be taken back."""

    def __init__(self, wheel, place):
        check_wheel(wheel)
        check_beginning(wheel, place)
        self._wheel = wheel
        self._begin = place
        self._log = []
        # Ahead of all calls and behind each one: (tick, field, pull, place, before, told). Before are the rounds lost
        # ahead of all turns of the tick, told is a tuple of the slips at earlier ticks.
        self._states = [(0, 0, 0, place, 0, ())]

    @property
    def tick(self):
        """The present tick."""
        return self._states[-1][0]

    @property
    def field(self):
        """The field at the present tick, behind its turns so far."""
        return self._states[-1][1]

    @property
    def pull(self):
        """The pull of the present tick."""
        return self._states[-1][2]

    @property
    def place(self):
        """The place at the present tick, ahead of its pull."""
        return self._states[-1][3]

    @property
    def aim(self):
        """The place that the wheel is pulled to."""
        return aim_at(self._wheel, self.field, self.place)

    @property
    def lost(self):
        """The rounds lost, below 0 if rounds are gained."""
        return lost_at(self._wheel, self.field, self.place)

    @property
    def slips(self):
        """For each tick whose turns changed the rounds lost the tick and the change."""
        tick, _, _, _, before, told = self._states[-1]
        return list(with_slip(told, tick, self.lost - before))

    @property
    def log(self):
        """The calls that are not taken back."""
        return list(self._log)

    def __len__(self):
        return len(self._log)

    def __eq__(self, other):
        if not isinstance(other, Follower):
            return False
        return self._wheel == other._wheel and self._begin == other._begin and self._log == other._log

    def turn(self, steps, tick):
        """Turn the field by so many steps at a tick."""
        check_number(steps)
        if steps == 0:
            raise InvalidNumber("a turn is not 0")
        self.check_present(tick)
        _, field, pull, place, before, told = self.state_at(tick)
        self.keep(("turn", steps, tick), (tick, field + steps * self._wheel[1], pull, place, before, told))

    def set_pull(self, pull, tick):
        """Set the pull of a tick and all later ones."""
        check_pull(pull)
        self.check_present(tick)
        _, field, _, place, before, told = self.state_at(tick)
        self.keep(("pull", pull, tick), (tick, field, pull, place, before, told))

    def wait(self, tick):
        """Make a tick the present one."""
        self.check_present(tick)
        self.keep(("wait", tick), self.state_at(tick))

    def undo(self):
        """Take back the last call that is not taken back yet."""
        if not self._log:
            raise NothingToUndo("no call is left to take back")
        self._log.pop()
        self._states.pop()

    def check_present(self, tick):
        """Raise InvalidTick unless the value is a tick that is not ahead of the present one."""
        if not is_number_from(tick, self.tick):
            raise InvalidTick("the tick is not an integer from the present one on")

    def state_at(self, tick):
        """The state at a tick, from the present one on, if nothing more is told."""
        now, field, pull, place, before, told = self._states[-1]
        if tick == now:
            return self._states[-1]
        # Pulls do not change the rounds lost, so the slip of the tick that is left is known now.
        lost = self.lost
        there = moved(self._wheel, field, place, pull, tick - now)
        return tick, field, pull, there, lost, with_slip(told, now, lost - before)

    def keep(self, call, state):
        """Keep a call and the state behind it."""
        self._log.append(call)
        self._states.append(state)

    def would_be(self):
        """When and where the wheel stands if nothing more is told; None and the present place if it never does."""
        tick, field, pull, place, _, _ = self._states[-1]
        ticks = ticks_to_aim(self._wheel, field, place, pull)
        if ticks is None:
            return None, place
        return tick + ticks, self.aim

    def fork(self):
        """A follower in the same state, which can take back the same calls."""
        other = Follower(self._wheel, self._begin)
        other._log = list(self._log)
        other._states = list(self._states)
        return other


def with_slip(told, tick, rounds):
    """The slips told so far and the one of a tick, if rounds were lost or gained at it."""
    if rounds == 0:
        return told
    return told + ((tick, rounds),)
