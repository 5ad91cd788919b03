"""Scripts: lists of commands for a hall, carried out, written down, read again, and shortened."""

from oddlamps.calls import KINDS, call
from oddlamps.errors import (
    InvalidLamp, InvalidRoad, InvalidScript, InvalidSetting, InvalidSpot, InvalidText, InvalidTies, InvalidWishes,
    NothingToRedo, NothingToUndo, Refused, Unlike)
from oddlamps.hall import Hall, need_hall
from oddlamps.kinds import are_words, copied, is_ascending, is_count, is_word
from oddlamps.nets import Net
from oddlamps.papers import net_in, net_text

# How many pieces of a line a thing takes; those of other kinds take all that are left.
PIECES = {"net": 0, "script": 0, "spot": 1, "word": 1, "tie": 2}
INNER = "  "


def _is_script(value):
    """Tell whether any object is a script."""
    return isinstance(value, list) and all([_is_command(command) for command in value])


def _is_command(value):
    """Tell whether any object is a command of a script."""
    if not (isinstance(value, tuple) and value and isinstance(value[0], str) and value[0] in KINDS):
        return False
    kinds = KINDS[value[0]]
    return len(value) == 1 + len(kinds) and all([_is_of(kind, thing) for kind, thing in zip(kinds, value[1:])])


def _is_of(kind, value):
    """Tell whether any object is of a kind of things that stand behind a command's word."""
    if kind == "net":
        return isinstance(value, Net)
    if kind == "script":
        return _is_script(value)
    if kind == "spot":
        return is_count(value)
    if kind == "word":
        return is_word(value)
    if kind == "tie":
        return isinstance(value, tuple) and len(value) == 2 and all([is_word(lamp) for lamp in value]) and (
            value[0] < value[1])
    return are_words(value) and (kind == "road" or is_ascending(value))


def _need_script(script):
    """Raise InvalidScript unless this is a script."""
    if not _is_script(script):
        raise InvalidScript(script)


def play(hall, script):
    """Carry out a script on a hall, and return what is said of each command."""
    need_hall(hall)
    _need_script(script)
    return _played(hall, script)


def _played(hall, script):
    """Carry out the commands of a script, and return what is said of each."""
    return [_tried(hall, command[1]) if command[0] == "try" else _said(hall, command) for command in script]


def _tried(hall, script):
    """Carry out a script in a block, and return what is said of that."""
    with hall.trial():
        said = _played(hall, script)
    return ("tried", said)


def _said(hall, command):
    """Carry out one command, and return what is said of it."""
    word, *things = command
    refusal = None
    told = None
    try:
        told = call(hall, word, things)
    except InvalidSpot:
        refusal = "InvalidSpot"
    except InvalidSetting:
        refusal = "InvalidSetting"
    except InvalidLamp:
        refusal = "InvalidLamp"
    except InvalidRoad:
        refusal = "InvalidRoad"
    except InvalidTies:
        refusal = "InvalidTies"
    except InvalidWishes:
        refusal = "InvalidWishes"
    except Unlike:
        refusal = "Unlike"
    except Refused:
        refusal = "Refused"
    except NothingToUndo:
        refusal = "NothingToUndo"
    except NothingToRedo:
        refusal = "NothingToRedo"
    if refusal is not None:
        return ("refused", refusal)
    if told is None:
        return ("done",)
    return ("put" if word == "put" else "told", told)


def script_text(script):
    """Return the text of a script."""
    _need_script(script)
    return _text_of(script)


def _text_of(script):
    """Return the lines of a script, put apart by line ends."""
    return "\n".join(_lines_of(script))


def _lines_of(script):
    """Return the list of the lines of a script."""
    return [line for command in script for line in _command_lines(command)]


def _command_lines(command):
    """Return the list of the lines of a command: one, or more where a net or a script stands in it."""
    word, *things = command
    line = [word]
    inner = []
    for kind, thing in zip(KINDS[word], things):
        if kind == "net":
            inner = net_text(thing).split("\n")
        elif kind == "script":
            inner = _lines_of(thing)
        else:
            line.extend(_pieces_of(thing))
    return [" ".join(line)] + ([INNER + row for row in inner] + ["end"] if _has_inner(word) else [])


def _pieces_of(thing):
    """Return the pieces of a line for a count, a word, or a list or tuple of words."""
    if isinstance(thing, int):
        return [str(thing)]
    return [thing] if isinstance(thing, str) else list(thing)


def _has_inner(word):
    """Tell whether lines of a net, or of a script, and an end follow the line of a command."""
    return word in ("put", "try")


def read_script(text):
    """Return the script of which this is the text."""
    if isinstance(text, str):
        script = _script_in(text.split("\n") if text else [])
        # Whatever lines seem to tell, the text has to be that of a script.
        if _is_script(script) and _text_of(script) == text:
            return script
    raise InvalidText(text)


def _script_in(lines):
    """Return the list of commands that lines seem to tell, one behind the other."""
    script = []
    at = 0
    while at < len(lines):
        inner = _inner_lines(lines[at + 1:])
        command = _command_in(lines[at].split(" "), inner)
        script.append(command)
        at += 2 + len(inner) if _has_inner(command[0]) else 1
    return script


def _inner_lines(lines):
    """Return the first ones of some lines, as far as they are further in, without the blanks ahead."""
    inner = []
    for line in lines:
        if not line.startswith(INNER):
            break
        inner.append(line[len(INNER):])
    return inner


def _command_in(pieces, inner):
    """Return the command that the pieces of a line, and the lines further in behind it, seem to tell."""
    word, *left = pieces
    things = []
    for kind in KINDS.get(word, ()):
        many = PIECES.get(kind, len(left))
        things.append(_thing_in(kind, left[:many], inner))
        left = left[many:]
    return (word, *things)


def _thing_in(kind, pieces, inner):
    """Return the thing of a kind that pieces, or lines further in, seem to tell, None if there is none."""
    if kind == "net":
        return net_in("\n".join(inner))
    if kind == "script":
        return _script_in(inner)
    if kind == "tie":
        return tuple(pieces)
    if kind not in PIECES:
        return pieces
    if not pieces or kind == "word":
        return pieces[0] if pieces else None
    return int(pieces[0]) if pieces[0].isdecimal() else None


def end_of(script):
    """Return the dictionary from the spots, ascending, of a new hall behind a script to net, setting and aim there."""
    _need_script(script)
    hall = Hall()
    _played(hall, script)
    return {spot: (hall.net_there(spot), hall.setting_there(spot), hall.aim_there(spot)) for spot in hall.spots()}


def shortened(script):
    """Return what is left of a script if each command, the last one first, is left out that its end does not need."""
    end = end_of(script)
    left = copied(script)
    for at in reversed(range(len(script))):
        rest = left[:at] + left[at + 1:]
        if end_of(rest) == end:
            left = rest
    return left
