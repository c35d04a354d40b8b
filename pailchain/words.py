"""Words: deeds and yards as texts, written and read."""

from pailchain.checks import is_name
from pailchain.errors import BadText
from pailchain.yard import Yard

HEAD = "yard"
MOST_FIGURES = 9
# The things of each deed in their order, but for lay, which has as many as its way needs.
FORMS = {
    "hire": ("name", "number"),
    "dismiss": ("name",),
    "send": ("name", "number"),
    "call": ("name",),
    "stay": ("name",),
    "swap": ("name",),
    "pace": ("name", "number"),
    "go": ("number", "number"),
    "outs": ("number", "number"),
}


def deed_text(deed):
    """The deed's word and things with one blank between."""
    things = list(deed[1:])
    if deed[0] == "lay":
        things = [part for stretch in deed[1] for part in stretch]
    return " ".join([deed[0]] + [str(thing) for thing in things])


def are_figures(text):
    return 1 <= len(text) <= MOST_FIGURES and all("0" <= sign <= "9" for sign in text)


def read_number(text):
    if not are_figures(text.removeprefix("-")):
        raise BadText()
    number = int(text)
    # A nought ahead, or a sign ahead of nought, is lost when the number is written again.
    if str(number) != text:
        raise BadText()
    return number


def read_thing(kind, text):
    if kind == "number":
        return read_number(text)
    if not is_name(text):
        raise BadText()
    return text


def read_things(form, texts):
    """The things of these kinds, as many texts as kinds."""
    if len(texts) != len(form):
        raise BadText()
    return [read_thing(kind, text) for kind, text in zip(form, texts)]


def read_way(texts):
    """A tuple of pairs, one or more."""
    numbers = [read_number(text) for text in texts]
    if not numbers or len(numbers) % 2 != 0:
        raise BadText()
    return tuple([(numbers[at], numbers[at + 1]) for at in range(0, len(numbers), 2)])


def read_deed(text):
    """The deed of this text; whether it can be done is not asked."""
    parts = text.split(" ")
    word = parts[0]
    if word == "lay":
        return (word, read_way(parts[1:]))
    if word not in FORMS:
        raise BadText()
    return (word,) + tuple(read_things(FORMS[word], parts[1:]))


def written(yard):
    """The yard as the texts of its deeds done and not taken back."""
    return "\n".join([HEAD] + [deed_text(deed) for deed in yard.deeds()])


def read_yard(text):
    """A yard that has done the deeds of this text."""
    lines = text.split("\n")
    if lines[0] != HEAD:
        raise BadText()
    # All lines are read ahead of the first deed, since a bad text is refused ahead of a bad deed.
    deeds = [read_deed(line) for line in lines[1:]]
    yard = Yard()
    for deed in deeds:
        yard.do(deed)
    return yard
