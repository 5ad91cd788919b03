"""The words that name what a hall can be told, or asked, in logs and scripts, and the calls for which they stand."""

# The kinds of the things that stand behind each word.
KINDS = {
    "put": ("net", "setting"), "take": ("spot",), "switch": ("spot", "word"), "lead": ("spot", "road"),
    "aim": ("spot", "setting"), "let_go": ("spot",), "push": ("spot", "word"), "tie": ("spot", "tie"),
    "rewish": ("spot", "word", "word"), "lay": ("spot", "spot"), "ready_there": ("spot",), "is_met": ("spot",),
    "alike_spots": ("spot",), "undo": (), "redo": (), "try": ("script",)}
LOGGED = ("put", "take", "switch", "lead", "aim", "let_go", "push", "tie", "rewish", "lay")


def call(hall, word, things):
    """Call the method of a hall that a word names and return what it returns."""
    if word == "put":
        return hall.put(*things)
    if word == "take":
        return hall.take(*things)
    if word == "switch":
        return hall.switch(*things)
    if word == "lead":
        return hall.lead(*things)
    if word == "aim":
        return hall.aim(*things)
    if word == "let_go":
        return hall.let_go(*things)
    if word == "push":
        return hall.push(*things)
    if word == "tie":
        return hall.tie(*things)
    if word == "rewish":
        return hall.rewish(*things)
    if word == "lay":
        return hall.lay(*things)
    if word == "ready_there":
        return hall.ready_there(*things)
    if word == "is_met":
        return hall.is_met(*things)
    if word == "alike_spots":
        return hall.alike_spots(*things)
    return hall.undo() if word == "undo" else hall.redo()
