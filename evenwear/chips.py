"""The chip: blocks of pages that wear out by being erased, and whose power can be cut."""

from evenwear.errors import BadSize, Cut, NoPage, NotErased

LEAST_BLOCKS = 4
MOST_BLOCKS = 32
LEAST_PAGES = 2
MOST_PAGES = 16
TORN = "torn"


# The words of the refusals name no number that was handed in: Python won't
# turn a whole number of very many figures into a text.
class Chip:
    def __init__(self, blocks, pages):
        if not LEAST_BLOCKS <= blocks <= MOST_BLOCKS:
            raise BadSize("a chip has 4 to 32 blocks")
        if not LEAST_PAGES <= pages <= MOST_PAGES:
            raise BadSize("a block has 2 to 16 pages")
        self.blocks = blocks
        self.pages = pages
        self.held = [[None] * pages for block in range(blocks)]
        self.erasures = [0] * blocks
        self.writes = 0
        self.left = None
        self.dark = False

    def size(self):
        return (self.blocks, self.pages)

    def page(self, block, page):
        self.check_page(block, page)
        return self.held[block][page]

    def worn(self, block):
        self.check_block(block)
        return self.erasures[block]

    def written(self):
        return self.writes

    def power(self, many):
        self.left = many
        self.dark = False

    def write(self, block, page, thing):
        self.check_page(block, page)
        self.check_erased_from(block, page)
        lasts = self.draw_power()
        self.writes = self.writes + 1
        self.held[block][page] = thing if lasts else TORN
        if not lasts:
            raise Cut("the power was cut amid a write")

    def erase(self, block):
        self.check_block(block)
        lasts = self.draw_power()
        self.erasures[block] = self.erasures[block] + 1
        self.held[block] = [None if lasts else TORN] * self.pages
        if not lasts:
            raise Cut("the power was cut amid an erasure")

    def check_block(self, block):
        if not 0 <= block < self.blocks:
            raise NoPage("the chip has no such block")

    def check_page(self, block, page):
        self.check_block(block)
        if not 0 <= page < self.pages:
            raise NoPage("the block has no such page")

    def check_erased_from(self, block, page):
        for thing in self.held[block][page:]:
            if thing is not None:
                raise NotErased("that page, or one behind it, is not erased")

    # Tells whether the power lasts for one more write or erasure. Only the
    # one amid which it fails leaves something torn; those after it find no
    # power at all, so they end here, before anything is counted.
    def draw_power(self):
        if self.dark:
            raise Cut("there is no power")
        if self.left is None:
            return True
        if self.left <= 0:
            self.dark = True
            return False
        self.left = self.left - 1
        return True


def copied(chip):
    twin = Chip(chip.blocks, chip.pages)
    twin.held = [list(row) for row in chip.held]
    twin.erasures = list(chip.erasures)
    twin.writes = chip.writes
    return twin
