"""The desk: the rows of a text, done one by one at a chip and the disk over it."""

from evenwear.chips import TORN, Chip
from evenwear.disks import mounted
from evenwear.errors import BadContent, BadRow, BadSize, Cut, NoDisk, NoPage, NoSector

FIGURES = "0123456789"
MOST_FIGURES = 12
# How many numbers stand behind each word.
NUMBERS = {"chip": 3, "write": 2, "read": 1, "power": 1, "mount": 0, "worn": 1, "written": 0, "page": 2}


class Desk:
    def __init__(self):
        self.chip = None
        # None also from a cut on till it is mounted anew.
        self.disk = None
        self.many = 0

    def done(self, name, given):
        if name == "chip":
            return self.make_chip(given[0], given[1], given[2])
        if self.chip is None:
            raise NoDisk("there is no chip yet")
        if name == "mount":
            return self.mount()
        if name == "power":
            return self.set_power(given[0])
        if name == "worn":
            return str(self.chip.worn(given[0]))
        if name == "written":
            return str(self.chip.written())
        if name == "page":
            return page_kind(self.chip.page(given[0], given[1]))
        if self.disk is None:
            raise NoDisk("the disk was cut and isn't mounted anew")
        if name == "read":
            return str(self.disk.read(given[0]))
        return self.write(given[0], given[1])

    # The new disk is whole before the old one goes: what is refused changes nothing.
    def make_chip(self, blocks, pages, many):
        chip = Chip(blocks, pages)
        self.disk = mounted(chip, many)
        self.chip = chip
        self.many = many
        return "ok"

    def mount(self):
        self.disk = mounted(self.chip, self.many)
        return "ok"

    def set_power(self, many):
        self.chip.power(many)
        return "ok"

    def write(self, sector, content):
        self.disk.write(sector, content)
        return "ok"

    def lose_disk(self):
        self.disk = None


def page_kind(thing):
    if thing is None:
        return "erased"
    if thing == TORN:
        return "torn"
    return "whole"


def is_number(word):
    if not 1 <= len(word) <= MOST_FIGURES:
        return False
    if len(word) > 1 and word[0] == "0":
        return False
    return all([sign in FIGURES for sign in word])


# Parted at each single blank, so that a blank too many leaves an empty word,
# which is neither a name nor a number.
def parsed(row):
    words = row.split(" ")
    if words == ["power", "all"]:
        return ("power", [None])
    if NUMBERS.get(words[0]) != len(words) - 1:
        raise BadRow("no row has that word with so many others behind it")
    for word in words[1:]:
        if not is_number(word):
            raise BadRow("a number has 1 to 12 figures, and no nought ahead of another")
    return (words[0], [int(word) for word in words[1:]])


def answer_to(desk, row):
    try:
        step = parsed(row)
        return desk.done(step[0], step[1])
    except BadRow:
        return "refused: BadRow"
    except NoDisk:
        return "refused: NoDisk"
    except BadSize:
        return "refused: BadSize"
    except NoPage:
        return "refused: NoPage"
    except NoSector:
        return "refused: NoSector"
    except BadContent:
        return "refused: BadContent"
    except Cut:
        desk.lose_disk()
        return "refused: Cut"


def play(text):
    desk = Desk()
    return [answer_to(desk, row) for row in text.split("\n") if row.strip(" ") != ""]
