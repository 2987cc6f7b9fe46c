"""Lines that a desk is told: their words, and what is refused of these whatever the desk keeps."""

from leanestate.errors import NoLine
from leanestate.paths import look_at_rule_of_path
from leanestate.sharing import look_at_rule
from leanestate.texts import read

# What the words behind the first one tell.
FORMS = {
    "claim": ("NEW", "R"),
    "more": ("NAME", "R"),
    "drop": ("NAME",),
    "part": ("NAME", "NEW", "R"),
    "join": ("NAME", "OTHER"),
    "estate": ("R",),
    "grow": ("R",),
    "leave": ("NAME", "RULE"),
    "show": (),
    "share": ("RULE",),
    "turned": ("RULE",),
    "two": ("RULE", "NAME", "OTHER"),
    "need": ("RULE", "NAME", "R"),
}


def words_of(line):
    # Without a sign to cut at, split would also cut at tabs and the like, which are parts of words.
    return [word for word in line.split(" ") if word != ""]


def told_by(words):
    if len(words) == 0 or words[0] not in FORMS:
        raise NoLine("no line begins so")
    form = FORMS[words[0]]
    if len(words) != 1 + len(form):
        raise NoLine("such a line has another number of words")
    told = dict(zip(form, words[1:]))
    if "OTHER" in told and told["OTHER"] == told["NAME"]:
        raise NoLine("both names are one")
    told["LINE"] = words[0]
    return told


def look_at_rule_told(told):
    if told["LINE"] == "need":
        look_at_rule_of_path(told["RULE"])
    else:
        look_at_rule(told["RULE"])


def line_read(line):
    told = told_by(words_of(line))
    if "R" in told:
        told["R"] = read(told["R"])
    if "RULE" in told:
        look_at_rule_told(told)
    return told
