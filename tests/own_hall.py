"""An own list of what a hall holds, told command by command, and drawn commands, right ones and wrong ones."""

import copy

from helpers import Net, all_lots, frozen, made_net, own_free, own_reached, own_ready, own_sum
from oddlamps.errors import LampError

NETS = [made_net("ab", "ab"), made_net("abs", "ab bs", "!s"), made_net("mx", "mx", "!m x"), made_net("c", "", "c"),
        made_net("defg", "de ef dg", "f"), made_net("pqr", "pq qr pr", "!p"), made_net("st", "st", "!s !t")]
ASKINGS = ("ready_there", "is_met", "alike_spots")
ONE_SPOT = ("take", "let_go") + ASKINGS


class Refusal(Exception):
    """The name of an error, and the thing that it holds."""


def own_ready_lamps(net, setting):
    return [lamp for lamp in net.lamps() if own_ready(net.wishes(), net.ties(), setting, lamp)]


def is_list_of_lamps(net, value, ascending):
    if not (isinstance(value, list) and all(isinstance(lamp, str) and lamp in net.lamps() for lamp in value)):
        return False
    return not ascending or value == sorted(set(value))


class OwnHall:
    """Spots as a dictionary of lists, histories as lists of whole copies."""

    def __init__(self):
        self.now = {"spots": {}, "many": 0, "log": []}
        self.past, self.future = [], []

    def copy(self):
        return copy.deepcopy(self, {id(net): net for net in NETS})

    def kept(self):
        """Return all that a block has to bring back."""
        return copy.deepcopy((self.now, self.past, self.future), {id(net): net for net in NETS})

    def bring_back(self, kept):
        self.now, self.past, self.future = kept

    def there(self, spot):
        if isinstance(spot, bool) or not isinstance(spot, int) or spot not in self.now["spots"]:
            raise Refusal("InvalidSpot", spot)
        return self.now["spots"][spot]

    def tell(self, word, *things):
        """Carry out a command, or ask, and return what is told; raise Refusal where the document refuses."""
        if word in ("undo", "redo"):
            return self.go(word)
        before = copy.deepcopy(self.now)
        answer = getattr(self, "do_" + word)(*things)
        if word not in ASKINGS:
            self.now["log"].append(copy.deepcopy((word,) + things))
            self.past, self.future = self.past + [before], []
        return answer

    def go(self, word):
        from_, to = (self.past, self.future) if word == "undo" else (self.future, self.past)
        if not from_:
            raise Refusal("NothingToUndo" if word == "undo" else "NothingToRedo", None)
        to.append(self.now)
        self.now = from_.pop()

    def do_put(self, net, setting):
        if not isinstance(net, Net):
            raise Refusal("InvalidNet", net)
        self.need_setting(net, setting)
        spot = self.now["many"]
        self.now["spots"][spot] = [net, sorted(setting), None]
        self.now["many"] += 1
        return spot

    def need_setting(self, net, setting):
        if not is_list_of_lamps(net, setting, True):
            raise Refusal("InvalidSetting", setting)

    def need_no_aim(self, spot):
        if self.now["spots"][spot][2] is not None:
            raise Refusal("Refused", spot)

    def do_take(self, spot):
        self.there(spot)
        del self.now["spots"][spot]

    def do_switch(self, spot, lamp):
        net, setting, _ = self.there(spot)
        if not (isinstance(lamp, str) and lamp in own_free(net)):
            raise Refusal("InvalidLamp", lamp)
        if lamp not in own_ready_lamps(net, setting):
            raise Refusal("Refused", lamp)
        return self.newly(spot, own_sum(setting, [lamp]))

    def newly(self, spot, behind):
        net, setting, _ = self.now["spots"][spot]
        self.now["spots"][spot][1] = behind
        ahead = own_ready_lamps(net, setting)
        return [lamp for lamp in own_ready_lamps(net, behind) if lamp not in ahead]

    def do_lead(self, spot, road):
        net, setting, _ = self.there(spot)
        if not is_list_of_lamps(net, road, False):
            raise Refusal("InvalidRoad", road)
        for lamp in road:
            if lamp not in own_ready_lamps(net, setting):
                raise Refusal("InvalidRoad", road)
            setting = own_sum(setting, [lamp])
        self.now["spots"][spot][1] = setting

    def do_aim(self, spot, aim):
        net, setting, _ = self.there(spot)
        self.need_setting(net, aim)
        if set(own_sum(setting, aim)) - set(own_free(net)):
            raise Refusal("Unlike", aim)
        if tuple(aim) not in own_reached(net, setting):
            raise Refusal("Refused", aim)
        self.now["spots"][spot][2] = sorted(aim)

    def do_let_go(self, spot):
        if self.there(spot)[2] is None:
            raise Refusal("Refused", spot)
        self.now["spots"][spot][2] = None

    def do_push(self, spot, lamp):
        net, setting, _ = self.there(spot)
        if not (isinstance(lamp, str) and lamp in net.lamps() and lamp not in own_free(net)):
            raise Refusal("InvalidLamp", lamp)
        self.need_no_aim(spot)
        return self.newly(spot, own_sum(setting, [lamp]))

    def do_tie(self, spot, tie):
        net = self.there(spot)[0]
        if not (isinstance(tie, tuple) and len(tie) == 2 and is_list_of_lamps(net, list(tie), True)):
            raise Refusal("InvalidTies", tie)
        self.need_no_aim(spot)
        self.now["spots"][spot][0] = Net(net.lamps(), sorted(set(net.ties()) ^ {tie}), net.wishes())

    def do_rewish(self, spot, lamp, wish):
        net = self.there(spot)[0]
        if not (isinstance(lamp, str) and lamp in net.lamps()):
            raise Refusal("InvalidLamp", lamp)
        if not (isinstance(wish, str) and wish in ("odd", "even", "stuck")):
            raise Refusal("InvalidWishes", wish)
        self.need_no_aim(spot)
        self.now["spots"][spot][0] = Net(net.lamps(), net.ties(), {**net.wishes(), lamp: wish})

    def do_lay(self, one, other):
        net, setting, _ = self.there(one)
        further, more, _ = self.there(other)
        if one == other:
            raise Refusal("InvalidSpot", other)
        self.need_no_aim(one)
        self.need_no_aim(other)
        if set(net.lamps()) & set(further.lamps()):
            raise Refusal("Refused", other)
        both = Net(net.lamps() + further.lamps(), net.ties() + further.ties(), {**net.wishes(), **further.wishes()})
        self.now["spots"][one] = [both, sorted(setting + more), None]
        del self.now["spots"][other]

    def do_ready_there(self, spot):
        net, setting, _ = self.there(spot)
        return own_ready_lamps(net, setting)

    def do_is_met(self, spot):
        _, setting, aim = self.there(spot)
        return aim is None or aim == setting

    def do_alike_spots(self, spot):
        net, setting, _ = self.there(spot)
        reached = own_reached(net, setting)
        return [other for other in sorted(self.now["spots"]) if other != spot
                and self.now["spots"][other][0] == net and tuple(self.now["spots"][other][1]) in reached]


def what_is_told(hall, word, *things):
    """Return what a hall tells to a command, or the name and the field of the error that it raises."""
    try:
        return ("told", frozen(getattr(hall, word)(*things)))
    except LampError as error:
        return (type(error).__name__, id(getattr(error, "value", None)))


def what_own_tells(own, word, *things):
    try:
        return ("told", frozen(own.tell(word, *things)))
    except Refusal as refusal:
        name, value = refusal.args
        return (name, id(value))


def check_alike(case, hall, own):
    """Compare all that a hall tells without being changed with an own list of it."""
    spots = own.now["spots"]
    case.assertEqual(frozen(hall.spots()), frozen(sorted(spots)))
    for spot in spots:
        there = (hall.net_there(spot), hall.setting_there(spot), hall.aim_there(spot))
        case.assertEqual(frozen(there), frozen(tuple(spots[spot])))
        case.assertEqual(hall.ready_there(spot), own.do_ready_there(spot))
        case.assertIs(hall.is_met(spot), own.do_is_met(spot))
    case.assertEqual(frozen(hall.log()), frozen(own.now["log"]))


def drawn_command(own, dice):
    """Return a command or an asking, mostly one that can be done as an own hall stands."""
    spots = sorted(own.now["spots"])
    if not spots or dice.random() < (0.3 if len(spots) < 4 else 0.05):
        net = dice.choice(NETS)
        return ("put", net, dice.choice(all_lots(net.lamps())))
    spot = dice.choice(spots) if dice.random() < 0.95 else dice.choice([7, len(spots), 0, own.now["many"]])
    net, setting, aim = own.now["spots"].get(spot, (NETS[0], [], None))
    lamp, wish = dice.choice(net.lamps() + ["z"]), dice.choice(["odd", "even", "stuck", "red"])
    ready = own_ready_lamps(net, setting)
    settings = [list(now) for now in own_reached(net, setting)] + [dice.choice(all_lots(net.lamps()))]
    words = ["switch"] * 5 + ["lead", "aim", "aim", "push", "tie", "rewish", "lay", "undo", "undo", "redo", "redo"]
    words.extend(list(ONE_SPOT) + ["let_go"] * (2 if aim is not None else 0))
    word = dice.choice(words)
    if word in ("undo", "redo"):
        return (word,)
    if word in ONE_SPOT:
        return (word, spot)
    if word in ("switch", "push"):
        return (word, spot, dice.choice(ready) if ready and word == "switch" and dice.random() < 0.7 else lamp)
    if word == "lead":
        return (word, spot, drawn_road(net, setting, dice))
    if word == "aim":
        return (word, spot, dice.choice(settings))
    if word == "tie":
        pair = tuple(sorted(dice.sample(net.lamps() + ["z"], 2))) if dice.random() < 0.9 else (lamp, lamp)
        return (word, spot, pair)
    if word == "rewish":
        return (word, spot, lamp, wish)
    return (word, spot, dice.choice(spots + [9]))


def drawn_road(net, setting, dice):
    road = []
    for _ in range(dice.randint(0, 4)):
        ready = own_ready_lamps(net, setting)
        if not ready:
            break
        road.append(dice.choice(ready))
        setting = own_sum(setting, road[-1:])
    return road if dice.random() < 0.8 else road + [dice.choice(net.lamps())]


def own_way_ends(net, setting, road):
    """Return where a list of lamps leads, None if it is no road."""
    for lamp in road:
        if lamp not in own_ready_lamps(net, setting):
            return None
        setting = own_sum(setting, [lamp])
    return setting
