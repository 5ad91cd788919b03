"""A hall: nets with settings and aims at spots, commands that can be taken back, and blocks that leave no trace."""

from oddlamps.calls import KINDS, LOGGED, call
from oddlamps.changes import changed
from oddlamps.errors import (
    InvalidHall, InvalidLog, InvalidSpot, InvalidTies, InvalidWishes, NothingToRedo, NothingToUndo, Refused, Unlike)
from oddlamps.joining import alike_in_stuck, joined
from oddlamps.kinds import copied, is_count
from oddlamps.nets import WISHES, is_tie, need_free_lamp, need_lamp, need_stuck_lamp, side_by_side
from oddlamps.settings import (
    is_ready, is_road, led, need_setting, ready_lamps, setting_shifted, switched)
from oddlamps.ways import way_between


class Stand:
    """How a hall stands; no stand is ever changed, each command makes a new one of the one before.

    held is the dictionary from the spots, ascending, to the tuples of net, setting and aim there; many is how many
    spots there have been. The stand of a new hall has neither a command nor one before.
    """

    def __init__(self, held, many, command, before):
        self.held = held
        self.many = many
        self.command = command
        self.before = before


class Trial:
    """A block: when it is left, its hall is as it was when the block was entered."""

    def __init__(self, hall):
        self.hall = hall
        self.stand = None
        self.taken_back = None

    def __enter__(self):
        self.stand = self.hall.stand
        self.taken_back = self.hall.taken_back
        return self.hall

    def __exit__(self, kind, value, trace):
        hall = self.hall
        hall.stand = self.stand
        hall.taken_back = self.taken_back


class Hall:
    """Spots, each with a net, a setting of it, and perhaps an aim.

    stand is how the hall stands, taken_back the list, never changed, of the stands that can be made again, last first.
    """

    def __init__(self):
        self.stand = Stand({}, 0, None, None)
        self.taken_back = []

    def put(self, net, setting):
        """Put a net with a setting at a new spot, and return this."""
        need_setting(net, setting)
        spot = self.stand.many
        _keep(self, ("put", net, setting), spot, (net, list(setting), None))
        return spot

    def take(self, spot):
        """Take a spot away."""
        _there(self, spot)
        _go_on(self, ("take", spot), _held_without(self, spot))

    def spots(self):
        """Return the ascending list of the spots."""
        return list(self.stand.held)

    def net_there(self, spot):
        """Return the net at a spot."""
        return _there(self, spot)[0]

    def setting_there(self, spot):
        """Return the setting at a spot."""
        return copied(_there(self, spot)[1])

    def aim_there(self, spot):
        """Return the aim at a spot, None if there is none."""
        return copied(_there(self, spot)[2])

    def switch(self, spot, lamp):
        """Do a deed, and return the ascending list of the lamps that are ready now and were not."""
        net, setting, aim = _there(self, spot)
        need_free_lamp(net, lamp)
        if not is_ready(net, setting, lamp):
            raise Refused(lamp)
        behind = switched(net, setting, lamp)
        _keep(self, ("switch", spot, lamp), spot, (net, behind, aim))
        return _newly_ready(net, setting, behind)

    def ready_there(self, spot):
        """Return the ascending list of the ready lamps at a spot."""
        net, setting, _ = _there(self, spot)
        return ready_lamps(net, setting)

    def lead(self, spot, road):
        """Do the deeds of a whole road."""
        net, setting, aim = _there(self, spot)
        _keep(self, ("lead", spot, road), spot, (net, led(net, setting, road), aim))

    def aim(self, spot, setting):
        """Give a spot an aim, in the place of the one that it had."""
        net, there, _ = _there(self, spot)
        need_setting(net, setting)
        if not alike_in_stuck(net, there, setting):
            raise Unlike(setting)
        if not joined(net, there, setting):
            raise Refused(setting)
        _keep(self, ("aim", spot, setting), spot, (net, there, list(setting)))

    def let_go(self, spot):
        """Take the aim of a spot away."""
        net, setting, aim = _there(self, spot)
        if aim is None:
            raise Refused(spot)
        _keep(self, ("let_go", spot), spot, (net, setting, None))

    def is_met(self, spot):
        """Return whether the setting at a spot is its aim, if it has one."""
        _, setting, aim = _there(self, spot)
        return aim is None or setting == aim

    def is_way(self, spot, value):
        """Return whether any object is a road to the aim of a spot; without one the empty list alone is."""
        net, setting, aim = _there(self, spot)
        if aim is None:
            return isinstance(value, list) and not value
        return is_road(net, setting, value) and led(net, setting, value) == aim

    def way(self, spot):
        """Return any road to the aim of a spot."""
        net, setting, aim = _there(self, spot)
        return [] if aim is None else way_between(net, setting, aim)

    def push(self, spot, lamp):
        """Switch a stuck lamp, and return the ascending list of the lamps that are ready now and were not."""
        net, setting, _ = _there(self, spot)
        need_stuck_lamp(net, lamp)
        _need_no_aim(self, spot)
        behind = setting_shifted(net, setting, [lamp])
        _keep(self, ("push", spot, lamp), spot, (net, behind, None))
        return _newly_ready(net, setting, behind)

    def tie(self, spot, tie):
        """Take a tie of a net away, or put it in if it has it not."""
        net, setting, _ = _there(self, spot)
        if not is_tie(net.near, tie):
            raise InvalidTies(tie)
        _need_no_aim(self, spot)
        one, other = tie
        change = ("untie" if other in net.near[one] else "tie", one, other)
        _keep(self, ("tie", spot, tie), spot, (changed(net, change), setting, None))

    def rewish(self, spot, lamp, wish):
        """Give a lamp a wish, perhaps the same one."""
        net, setting, _ = _there(self, spot)
        need_lamp(net, lamp)
        if wish not in WISHES:
            raise InvalidWishes(wish)
        _need_no_aim(self, spot)
        behind = net if net.wish[lamp] == wish else changed(net, ("wish", lamp, wish))
        _keep(self, ("rewish", spot, lamp, wish), spot, (behind, setting, None))

    def lay(self, one, other):
        """Put two nets with their settings side by side at the spot of the one, and take the other spot away."""
        net, setting, _ = _there(self, one)
        further, more, _ = _there(self, other)
        if other == one:
            raise InvalidSpot(other)
        _need_no_aim(self, one)
        _need_no_aim(self, other)
        if any([lamp in net.near for lamp in further.near]):
            raise Refused(other)
        held = _held_without(self, other)
        held[one] = (side_by_side(net, further), sorted(setting + more), None)
        _go_on(self, ("lay", one, other), held)

    def alike_spots(self, spot):
        """Return the ascending list of the other spots that have the same net and a joined setting."""
        net, setting, _ = _there(self, spot)
        held = _held_without(self, spot)
        return [other for other in held if held[other][0] == net and joined(net, setting, held[other][1])]

    def trial(self):
        """Return a block."""
        return Trial(self)

    def attempt(self, action):
        """Call a function with the hall in a block, and return what it returns."""
        with self.trial() as hall:
            answer = action(hall)
        return answer

    def copy(self):
        """Return an independent hall that is the same, and in no block."""
        other = Hall()
        other.stand = self.stand
        other.taken_back = self.taken_back
        return other

    def undo(self):
        """Take back the last command."""
        if self.stand.before is None:
            raise NothingToUndo()
        self.taken_back = self.taken_back + [self.stand]
        self.stand = self.stand.before

    def redo(self):
        """Make the command again that was taken back last."""
        if not self.taken_back:
            raise NothingToRedo()
        self.stand = self.taken_back[-1]
        self.taken_back = self.taken_back[:-1]

    def log(self):
        """Return the list of the commands that are not taken back, the eldest first."""
        commands = []
        stand = self.stand
        while stand.before is not None:
            commands.append(copied(stand.command))
            stand = stand.before
        return commands[::-1]


def _there(hall, spot):
    """Return the tuple of net, setting and aim at a spot; raise InvalidSpot if it is none."""
    if not (is_count(spot) and spot in hall.stand.held):
        raise InvalidSpot(spot)
    return hall.stand.held[spot]


def _need_no_aim(hall, spot):
    """Raise Refused if a spot has an aim."""
    if hall.aim_there(spot) is not None:
        raise Refused(spot)


def _newly_ready(net, setting, behind):
    """Return the ascending list of the lamps that are ready in a setting, but were not in one before."""
    ready = ready_lamps(net, setting)
    return [lamp for lamp in ready_lamps(net, behind) if lamp not in ready]


def _held_without(hall, spot):
    """Return a new dictionary of what is at all spots but one."""
    held = hall.stand.held
    return {other: held[other] for other in held if other != spot}


def _keep(hall, command, spot, place):
    """Go on to a stand in which a tuple of net, setting and aim is at a spot, perhaps a new one."""
    held = dict(hall.stand.held)
    held[spot] = place
    _go_on(hall, command, held)


def _go_on(hall, command, held):
    """Go on to a stand that a command made; what was taken back cannot be made again then."""
    many = hall.stand.many + (1 if command[0] == "put" else 0)
    hall.stand = Stand(held, many, copied(command), hall.stand)
    hall.taken_back = []


def need_hall(hall):
    """Raise InvalidHall unless this is a hall."""
    if not isinstance(hall, Hall):
        raise InvalidHall(hall)


def _is_logged(value):
    """Tell whether any object is a tuple of a command's word and as many things as stand behind it."""
    if not (isinstance(value, tuple) and value and value[0] in LOGGED):
        return False
    return len(value) == 1 + len(KINDS[value[0]])


def replayed(hall, log):
    """Return a copy of a hall on which the commands of a log are made, one after the other."""
    need_hall(hall)
    if not (isinstance(log, list) and all([_is_logged(command) for command in log])):
        raise InvalidLog(log)
    other = hall.copy()
    for command in log:
        word, *things = command
        call(other, word, things)
    return other
