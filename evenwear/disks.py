"""The disk: sectors that are written at will, kept on a ring of blocks and found again behind any cut."""

from evenwear.errors import BadContent, BadSize, NoSector

# One block is kept erased; the other one is why cleaning always finds, within
# a round of the ring, a block that isn't full of pages still of use.
SPARE_BLOCKS = 2
MOST_CONTENT = 999999999999


# What is newly written goes onto a block only when the block behind it is
# erased. So if whole pages are found behind the newest block, that one holds
# nothing but copies of them, and can be erased.
class Disk:
    def __init__(self, chip, many):
        self.chip = chip
        self.many = many
        self.places = newest_places(chip, many)
        self.block = last_block(chip)
        self.filled = len([thing for thing in things_on(chip, self.block) if thing is not None])

    def sectors(self):
        return self.many

    def read(self, sector):
        self.check_sector(sector)
        place = self.places[sector]
        if place is None:
            return 0
        return self.chip.page(place[0], place[1])[1]

    def write(self, sector, content):
        self.check_sector(sector)
        if not 0 <= content <= MOST_CONTENT:
            raise BadContent("a sector holds 0 to 999999999999")
        # Cleaning may fill the block that it begins.
        while self.filled == self.chip.size()[1]:
            self.begin_block()
        self.put(sector, content)

    def check_sector(self, sector):
        if not 0 <= sector < self.many:
            raise NoSector("the disk has no such sector")

    def begin_block(self):
        self.block = block_behind(self.chip, self.block)
        self.filled = 0
        oldest = block_behind(self.chip, self.block)
        if not is_erased(self.chip, oldest):
            self.clean(oldest)

    def clean(self, block):
        for page in range(self.chip.size()[1]):
            if (block, page) in self.places:
                thing = self.chip.page(block, page)
                self.put(thing[0], thing[1])
        self.chip.erase(block)

    # The chip's own count serves as the page's number: it rises with each
    # page, torn ones too, and no cut sets it back.
    def put(self, sector, content):
        self.chip.write(self.block, self.filled, (sector, content, self.chip.written()))
        self.places[sector] = (self.block, self.filled)
        self.filled = self.filled + 1


def mounted(chip, sectors):
    size = chip.size()
    if not 1 <= sectors <= (size[0] - SPARE_BLOCKS) * size[1]:
        raise BadSize("a disk has 1 sector to as many as all blocks but two have pages")
    mend(chip)
    return Disk(chip, sectors)


# Only a cut leaves no block erased. Either the newest block was amid being
# filled with what is still of use on the block behind it, or that one has no
# whole page: its own erasure was cut, or the first page of a cleaning onto it.
def mend(chip):
    for block in range(chip.size()[0]):
        if is_erased(chip, block):
            return
    newest = newest_block(chip)
    behind = block_behind(chip, newest)
    chip.erase(newest if has_whole_page(chip, behind) else behind)


def things_on(chip, block):
    return [chip.page(block, page) for page in range(chip.size()[1])]


def is_erased(chip, block):
    return all([thing is None for thing in things_on(chip, block)])


def has_whole_page(chip, block):
    return any([isinstance(thing, tuple) for thing in things_on(chip, block)])


def block_behind(chip, block):
    return (block + 1) % chip.size()[0]


# Each whole page as its number, its block and its page, the newest one last.
def whole_pages(chip):
    found = []
    for block in range(chip.size()[0]):
        for page in range(chip.size()[1]):
            thing = chip.page(block, page)
            if isinstance(thing, tuple):
                found.append((thing[2], block, page))
    return sorted(found)


def newest_block(chip):
    found = whole_pages(chip)
    return found[-1][1] if found else chip.size()[0] - 1


def newest_places(chip, many):
    places = [None] * many
    for found in whole_pages(chip):
        sector = chip.page(found[1], found[2])[0]
        places[sector] = (found[1], found[2])
    return places


# The block to go on with need not be the newest one: blocks on which every
# write was cut may lie behind that. But it is always ahead of the erased ones.
def last_block(chip):
    for block in range(chip.size()[0]):
        if not is_erased(chip, block) and is_erased(chip, block_behind(chip, block)):
            return block
    return 0
