"""THE PROMISE and points [20] to [24]: the disk, what it reads behind cuts, its ring and its wear."""

import itertools
import unittest

from evenwear.chips import Chip, copied
from evenwear.disks import Disk, mounted
from evenwear.errors import BadContent, BadSize, Cut, NoSector

# The last ones have more figures than Python turns into a text.
FAR = (10 ** 30, -(10 ** 30), 10 ** 5000, -(10 ** 5000))
MOST = 999999999999
SMALL = ((4, 2), (4, 3), (5, 2), (6, 4))
SIZES = SMALL + ((32, 2), (4, 16), (32, 16), (9, 5))


def most_sectors(chip):
    blocks, pages = chip.size()
    return (blocks - 2) * pages


def pages_of(chip):
    blocks, pages = chip.size()
    return [[chip.page(block, page) for page in range(pages)] for block in range(blocks)]


def wear_of(chip):
    return [chip.worn(block) for block in range(chip.size()[0])]


def seen(chip):
    return (pages_of(chip), wear_of(chip), chip.written())


def values_of(disk):
    return [disk.read(sector) for sector in range(disk.sectors())]


def spread(chip):
    return max(wear_of(chip)) - min(wear_of(chip))


def has_erased_block(chip):
    return any(all(thing is None for thing in row) for row in pages_of(chip))


def counts(start):
    """Whole numbers that look like chance and are the same each time."""
    state = start
    while True:
        state = (state * 1103515245 + 12345) % 2 ** 31
        yield state // 2 ** 12


def runs(sectors, many):
    """Ways of choosing the sector for each of so many writes."""
    mixed = counts(sectors)
    yield [0] * many
    yield [step % sectors for step in range(many)]
    yield [sectors - 1 - step % sectors for step in range(many)]
    yield [step * 7 % sectors if step % 3 else 0 for step in range(many)]
    yield [next(mixed) % sectors for step in range(many)]
    yield [step if step < sectors else next(mixed) % min(sectors, 2) for step in range(many)]


def some_sectors(chip):
    most = most_sectors(chip)
    return sorted({1, 2, most // 2, most - 1, most} - {0})


class SpyChip(Chip):
    """A chip that keeps in which order it was written and erased, cut ones too."""

    def __init__(self, blocks, pages):
        Chip.__init__(self, blocks, pages)
        self.log = []

    def write(self, block, page, thing):
        self.log.append(("write", block, page, thing))
        Chip.write(self, block, page, thing)

    def erase(self, block):
        self.log.append(("erase", block))
        Chip.erase(self, block)

    def places(self):
        return [step[1:3] for step in self.log if step[0] == "write"]


def ring_places(blocks, pages, many):
    ring = list(itertools.product(range(blocks), range(pages)))
    return [ring[step % len(ring)] for step in range(many)]


class DiskCase(unittest.TestCase):
    def assert_refused(self, refusal, chip, disk, act):
        before = (seen(chip), values_of(disk))
        with self.assertRaises(refusal):
            act()
        self.assertEqual((seen(chip), values_of(disk)), before)

    def cut_write(self, chip, disk, sector, content, many=0):
        chip.power(many)
        with self.assertRaises(Cut):
            disk.write(sector, content)
        chip.power(None)

    def assert_mount_does_nothing(self, chip, sectors):
        before = seen(chip)
        disk = mounted(chip, sectors)
        self.assertEqual(seen(chip), before)
        return disk


class MountedTest(DiskCase):
    def test_sectors_that_go(self):
        for blocks, pages in SIZES:
            most = most_sectors(Chip(blocks, pages))
            self.assertEqual(most, blocks * pages - 2 * pages)
            for sectors in (1, 2, most - 1, most):
                chip = Chip(blocks, pages)
                disk = self.assert_mount_does_nothing(chip, sectors)
                self.assertIsInstance(disk, Disk)
                self.assertEqual(disk.sectors(), sectors)
                disk.write(sectors - 1, 7)
                self.assertEqual(disk.read(sectors - 1), 7)

    def test_bad_sizes(self):
        for blocks, pages in SIZES:
            chip = Chip(blocks, pages)
            most = most_sectors(chip)
            before = seen(chip)
            for sectors in (0, -1, -2, most + 1, most + pages, blocks * pages) + FAR:
                with self.assertRaises(BadSize):
                    mounted(chip, sectors)
            self.assertEqual(seen(chip), before)

    def test_a_bad_size_on_a_chip_that_is_in_use(self):
        chip = Chip(4, 2)
        disk = mounted(chip, 4)
        for step in range(30):
            disk.write(step % 4, step)
            for sectors in (0, -1, 5, 10 ** 5000):
                self.assert_refused(BadSize, chip, disk, lambda: mounted(chip, sectors))

    def test_a_bad_size_goes_before_a_cut(self):
        chip = self.chip_that_mounting_erases()
        before = seen(chip)
        chip.power(0)
        for sectors in (0, 5):
            with self.assertRaises(BadSize):
                mounted(chip, sectors)
        self.assertEqual(seen(chip), before)
        with self.assertRaises(Cut):
            mounted(chip, 4)

    def chip_that_mounting_erases(self):
        """The first page of the first cleaning was cut."""
        chip = Chip(4, 2)
        disk = mounted(chip, 4)
        for step in range(6):
            disk.write(min(step, 3), step + 1)
        self.cut_write(chip, disk, 0, 9)
        self.assertFalse(has_erased_block(chip))
        return chip

    def test_cut_amid_mounting(self):
        chip = self.chip_that_mounting_erases()
        for times in range(3):
            chip.power(0)
            with self.assertRaises(Cut):
                mounted(chip, 4)
            # Without power nothing is done any more.
            before = seen(chip)
            with self.assertRaises(Cut):
                mounted(chip, 4)
            self.assertEqual(seen(chip), before)
        chip.power(None)
        self.assertEqual(values_of(mounted(chip, 4)), [1, 2, 3, 6])

    def test_mounting_without_power_goes_where_nothing_is_erased(self):
        chip = Chip(4, 2)
        disk = mounted(chip, 2)
        disk.write(0, 5)
        chip.power(0)
        with self.assertRaises(Cut):
            disk.write(1, 6)
        self.assertEqual(values_of(mounted(chip, 2)), [5, 0])

    def test_a_chip_that_a_disk_left(self):
        for blocks, pages in SMALL:
            for sectors in some_sectors(Chip(blocks, pages)):
                chip = Chip(blocks, pages)
                held = [0] * sectors
                for step in range(4 * blocks * pages):
                    disk = self.assert_mount_does_nothing(chip, sectors)
                    self.assertEqual(values_of(disk), held)
                    disk.write(step * 5 % sectors, step)
                    held[step * 5 % sectors] = step

    def test_a_chip_that_was_only_worn(self):
        chip = Chip(4, 2)
        for block in range(4):
            chip.erase(block)
        disk = self.assert_mount_does_nothing(chip, 4)
        disk.write(3, 8)
        self.assertEqual(values_of(disk), [0, 0, 0, 8])
        self.assertIsInstance(chip.page(0, 0), tuple)

    def test_a_chip_on_which_only_erasures_were_cut(self):
        for torn in itertools.product((False, True), repeat=5):
            chip = Chip(5, 2)
            for block in range(5):
                if torn[block]:
                    chip.power(0)
                    with self.assertRaises(Cut):
                        chip.erase(block)
                    chip.power(None)
            held = [0] * 6
            for step in range(60):
                disk = mounted(chip, 6)
                self.assertEqual(values_of(disk), held)
                disk.write(step % 6, step)
                held[step % 6] = step


class ReadAndWriteTest(DiskCase):
    def test_nothing_was_written(self):
        for blocks, pages in SIZES:
            chip = Chip(blocks, pages)
            disk = mounted(chip, most_sectors(chip))
            self.assertEqual(values_of(disk), [0] * most_sectors(chip))

    def test_what_was_last_written_is_read(self):
        for blocks, pages in SMALL + ((9, 5),):
            for sectors in some_sectors(Chip(blocks, pages)):
                for run in runs(sectors, 300):
                    disk = mounted(Chip(blocks, pages), sectors)
                    held = [0] * sectors
                    for step, sector in enumerate(run):
                        self.assertIsNone(disk.write(sector, step + 1))
                        held[sector] = step + 1
                        self.assertEqual(values_of(disk), held)

    def test_on_the_greatest_chip(self):
        chip = Chip(32, 16)
        disk = mounted(chip, 480)
        held = [0] * 480
        for step, sector in enumerate(list(range(480)) + [0] * 300 + [s * 77 % 480 for s in range(700)]):
            disk.write(sector, step + 1)
            held[sector] = step + 1
        self.assertEqual(values_of(disk), held)
        self.assertEqual(values_of(self.assert_mount_does_nothing(chip, 480)), held)

    def test_contents_that_go(self):
        disk = mounted(Chip(4, 2), 4)
        for content in (0, 1, MOST - 1, MOST, 0, 5, 0):
            disk.write(2, content)
            self.assertEqual(values_of(disk), [0, 0, content, 0])

    def test_the_same_content_again(self):
        disk = mounted(Chip(4, 2), 4)
        for times in range(50):
            disk.write(1, 6)
            self.assertEqual(values_of(disk), [0, 6, 0, 0])

    def test_bad_content(self):
        chip = Chip(4, 2)
        disk = mounted(chip, 4)
        for step in range(20):
            for content in (-1, -2, MOST + 1, MOST + 2) + FAR:
                self.assert_refused(BadContent, chip, disk, lambda: disk.write(step % 4, content))
            disk.write(step % 4, step)

    def test_no_sector(self):
        chip = Chip(4, 2)
        disk = mounted(chip, 3)
        for step in range(20):
            for sector in (-1, -3, 3, 4, 8) + FAR:
                self.assert_refused(NoSector, chip, disk, lambda: disk.read(sector))
                self.assert_refused(NoSector, chip, disk, lambda: disk.write(sector, 5))
                for content in (-1, MOST + 1, 10 ** 5000):
                    self.assert_refused(NoSector, chip, disk, lambda: disk.write(sector, content))
            disk.write(step % 3, step)

    def test_refusals_go_before_a_cut(self):
        chip = Chip(4, 2)
        disk = mounted(chip, 3)
        disk.write(0, 4)
        chip.power(0)
        self.assert_refused(NoSector, chip, disk, lambda: disk.write(3, 5))
        self.assert_refused(BadContent, chip, disk, lambda: disk.write(0, -1))
        with self.assertRaises(Cut):
            disk.write(0, 5)

    def test_reading_draws_on_no_power(self):
        chip = Chip(4, 2)
        disk = mounted(chip, 3)
        disk.write(0, 4)
        chip.power(1)
        before = seen(chip)
        for times in range(5):
            self.assertEqual(values_of(disk), [4, 0, 0])
        self.assertEqual(seen(chip), before)
        disk.write(1, 5)
        self.assertEqual(values_of(disk), [4, 5, 0])

    def test_two_disks_know_nothing_of_each_other(self):
        first, second = mounted(Chip(4, 2), 4), mounted(Chip(4, 2), 4)
        for step in range(40):
            first.write(step % 4, step)
            second.write(step % 4, 1000 + step)
        self.assertEqual(values_of(first), [36, 37, 38, 39])
        self.assertEqual(values_of(second), [1036, 1037, 1038, 1039])

    def test_disks_over_a_chip_and_its_copy(self):
        chip = Chip(4, 2)
        mounted(chip, 4).write(0, 1)
        twin = copied(chip)
        first, second = mounted(chip, 4), mounted(twin, 4)
        for step in range(40):
            first.write(0, 2 + step)
        self.assertEqual((first.read(0), second.read(0)), (41, 1))


class CutTest(DiskCase):
    def mount_behind_cuts(self, chip, sectors, times):
        """Mounts at last, behind being cut so many times, if mounting does anything."""
        for time in range(times):
            chip.power(0)
            before = wear_of(chip)
            written = chip.written()
            try:
                mounted(chip, sectors)
            except Cut:
                self.assertEqual(sum(wear_of(chip)), sum(before) + 1)
            else:
                self.assertEqual(wear_of(chip), before)
            self.assertEqual(chip.written(), written)
        chip.power(None)
        return mounted(chip, sectors)

    def assert_goes_on(self, chip, disk, held, cut_sector):
        """The disk reads as before when it is mounted once more, and each write goes and is read."""
        again = self.assert_mount_does_nothing(chip, len(held))
        self.assertEqual(values_of(again), held)
        held = list(held)
        steps = list(range(len(held))) + [0] * chip.size()[1] + [cut_sector]
        for step, sector in enumerate(steps):
            again.write(sector, 5000 + step)
            held[sector] = 5000 + step
            self.assertEqual(values_of(again), held)
            self.assertTrue(has_erased_block(chip))
        self.assertEqual(values_of(self.assert_mount_does_nothing(chip, len(held))), held)

    def assert_each_cut_is_borne(self, chip, held, sector):
        for many in itertools.count():
            cut = copied(chip)
            disk = mounted(cut, len(held))
            cut.power(many)
            try:
                disk.write(sector, 777)
            except Cut:
                pass
            else:
                return many
            for times in (0, 1, 3):
                twin = copied(cut)
                anew = self.mount_behind_cuts(twin, len(held), times)
                found = values_of(anew)
                self.assertIn(found[sector], (held[sector], 777))
                self.assertEqual(found[:sector] + found[sector + 1:], held[:sector] + held[sector + 1:])
                self.assert_goes_on(twin, anew, found, sector)

    def test_one_more_write_cut_at_each_place(self):
        for blocks, pages in ((4, 2), (4, 3), (5, 2)):
            for sectors in some_sectors(Chip(blocks, pages)):
                most = 0
                for run in runs(sectors, 2 * blocks * pages + 3):
                    chip = Chip(blocks, pages)
                    disk = mounted(chip, sectors)
                    held = [0] * sectors
                    for step, sector in enumerate(run):
                        for asked in {0, sectors // 2, sectors - 1}:
                            most = max(most, self.assert_each_cut_is_borne(chip, held, asked))
                        disk.write(sector, step + 1)
                        held[sector] = step + 1
                # On a full disk a page was moved, its block erased and the sector written at least.
                self.assertGreaterEqual(most, 3 if sectors == most_sectors(chip) else 2)

    def test_cuts_again_and_again(self):
        for (blocks, pages), gap in itertools.product(SMALL + ((9, 5),), (1, 2, 5, 30)):
            for sectors in some_sectors(Chip(blocks, pages)):
                chance = counts(blocks * 100 + pages * 10 + gap + sectors)
                chip = Chip(blocks, pages)
                disk = mounted(chip, sectors)
                held = [0] * sectors
                for step in range(120):
                    sector = next(chance) % sectors
                    chip.power(next(chance) % gap)
                    try:
                        disk.write(sector, step + 1)
                        held[sector] = step + 1
                    except Cut:
                        disk = self.mount_behind_cuts(chip, sectors, next(chance) % 3)
                        self.assertIn(disk.read(sector), (held[sector], step + 1))
                        held[sector] = disk.read(sector)
                    self.assertEqual(values_of(disk), held)
                chip.power(None)
                self.assert_goes_on(chip, disk, held, 0)

    def test_every_write_is_cut_for_long(self):
        for blocks, pages in SMALL:
            for sectors in some_sectors(Chip(blocks, pages)):
                for written in (0, 1, 3 * sectors):
                    chip = Chip(blocks, pages)
                    disk = mounted(chip, sectors)
                    held = [0] * sectors
                    for step in range(written):
                        disk.write(step % sectors, step + 1)
                        held[step % sectors] = step + 1
                    for step in range(3 * blocks * pages):
                        self.cut_write(chip, disk, step % sectors, 888)
                        disk = self.mount_behind_cuts(chip, sectors, step % 3)
                        self.assertIn(disk.read(step % sectors), (held[step % sectors], 888))
                        held[step % sectors] = disk.read(step % sectors)
                        self.assertEqual(values_of(disk), held)
                    self.assert_goes_on(chip, disk, held, 0)


class AllStatesTest(DiskCase):
    """Every way in which writes and cuts can leave the pages of the least chip."""

    def key(self, chip, held):
        """As the pages are, but for the very numbers: only which one is greater counts."""
        whole = [thing for row in pages_of(chip) for thing in row if isinstance(thing, tuple)]
        ranks = {thing[2]: rank for rank, thing in enumerate(sorted(whole, key=lambda thing: thing[2]))}
        self.assertEqual(len(ranks), len(whole))
        return tuple((thing[0], thing[1] == held[thing[0]], ranks[thing[2]]) if isinstance(thing, tuple) else thing
                     for row in pages_of(chip) for thing in row)

    def behind_mounting(self, chip, held):
        """The states that mounting leads to, or None if it does nothing."""
        through, cut = copied(chip), copied(chip)
        self.assertEqual(values_of(mounted(through, len(held))), held)
        self.assertTrue(has_erased_block(through))
        self.assertEqual(through.written(), chip.written())
        self.assertLessEqual(sum(wear_of(through)) - sum(wear_of(chip)), 1)
        if pages_of(through) == pages_of(chip):
            self.assertEqual(wear_of(through), wear_of(chip))
            return None
        cut.power(0)
        with self.assertRaises(Cut):
            mounted(cut, len(held))
        self.assert_mount_does_nothing(through, len(held))
        return [(through, held), (cut, held)]

    def behind_writing(self, chip, held, sector, content):
        """The states that one write leads to, cut at each place or not at all."""
        found = []
        for many in itertools.count():
            twin = copied(chip)
            disk = mounted(twin, len(held))
            twin.power(many)
            try:
                disk.write(sector, content)
            except Cut:
                found.append((twin, held))
                continue
            after = list(held)
            after[sector] = content
            self.assertEqual(values_of(disk), after)
            self.assertTrue(has_erased_block(twin))
            self.assertEqual(values_of(self.assert_mount_does_nothing(twin, len(held))), after)
            return found + [(twin, after)]

    def walk(self, sectors):
        todo, known = [(Chip(4, 2), [0] * sectors)], {}
        content = 0
        while todo:
            chip, held = todo.pop()
            key = self.key(chip, held)
            if key in known:
                continue
            known[key] = True
            found = self.behind_mounting(chip, held)
            if found is None:
                found = []
                for sector in range(sectors):
                    content = content + 1
                    found += self.behind_writing(chip, held, sector, content)
            todo += found
        return len(known)

    def test_one_sector(self):
        self.assertGreater(self.walk(1), 300)

    def test_two_sectors(self):
        self.assertGreater(self.walk(2), 3000)


class RingTest(DiskCase):
    def test_pages_are_written_one_behind_the_other(self):
        for blocks, pages in SMALL + ((9, 5),):
            for sectors in some_sectors(Chip(blocks, pages)):
                for run in runs(sectors, 100):
                    chip = SpyChip(blocks, pages)
                    disk = mounted(chip, sectors)
                    for step, sector in enumerate(run):
                        disk.write(sector, step)
                    self.assertEqual(chip.places(), ring_places(blocks, pages, len(chip.places())))
                    self.assertGreaterEqual(len(chip.places()), 100)

    def test_each_page_has_its_sector_its_content_and_a_number_that_rises(self):
        chip = SpyChip(4, 3)
        disk = mounted(chip, 6)
        held = [0] * 6
        for step in range(80):
            disk.write(step * 5 % 6, 100 + step)
            held[step * 5 % 6] = 100 + step
        things = [step[3] for step in chip.log if step[0] == "write"]
        numbers = [thing[2] for thing in things]
        self.assertEqual(numbers, sorted(set(numbers)))
        self.assertEqual([len(thing) for thing in things], [3] * len(things))
        whole = sorted((thing for row in pages_of(chip) for thing in row if thing), key=lambda thing: thing[2])
        self.assertEqual({thing[0]: thing[1] for thing in whole}, dict(enumerate(held)))

    def test_the_number_rises_behind_cuts_too(self):
        chip = SpyChip(4, 2)
        disk = mounted(chip, 4)
        for step in range(60):
            chip.power(step % 4)
            try:
                disk.write(step % 4, step)
            except Cut:
                chip.power(None)
                disk = mounted(chip, 4)
        numbers = [step[3][2] for step in chip.log if step[0] == "write"]
        self.assertEqual(numbers, sorted(set(numbers)))

    def test_blocks_are_erased_one_behind_the_other(self):
        for run in runs(4, 100):
            chip = SpyChip(4, 2)
            disk = mounted(chip, 4)
            for step, sector in enumerate(run):
                disk.write(sector, step)
            erased = [step[1] for step in chip.log if step[0] == "erase"]
            self.assertEqual(erased, [step % 4 for step in range(len(erased))])
            self.assertGreater(len(erased), 8)

    def test_a_write_whose_block_has_an_erased_page_left_writes_one_page(self):
        for (blocks, pages), anew in itertools.product(SMALL + ((9, 5),), (False, True)):
            for sectors in some_sectors(Chip(blocks, pages)):
                chip = SpyChip(blocks, pages)
                disk = mounted(chip, sectors)
                disk.write(0, 1)
                for step, sector in enumerate(itertools.islice(itertools.cycle(range(sectors)), 150)):
                    block, page = chip.places()[-1]
                    many = len(chip.log)
                    disk = mounted(chip, sectors) if anew else disk
                    disk.write(sector, step)
                    if page + 1 < pages:
                        self.assertEqual([entry[:3] for entry in chip.log[many:]], [("write", block, page + 1)])
                    else:
                        self.assertEqual(chip.places()[-1][0], chip.log[-1][1])

    def test_the_first_pages_of_a_disk(self):
        chip = Chip(4, 2)
        disk = mounted(chip, 4)
        for step, (block, page) in enumerate(itertools.product(range(3), range(2))):
            self.assertIsNone(chip.page(block, page))
            disk.write(0, step)
            self.assertIsInstance(chip.page(block, page), tuple)
            self.assertEqual((chip.written(), wear_of(chip)), (step + 1, [0] * 4))

    def test_when_the_last_erased_block_is_begun(self):
        chip = SpyChip(4, 2)
        disk = mounted(chip, 4)
        for step, sector in enumerate((0, 1, 2, 3, 0, 2)):
            disk.write(sector, step + 1)
        chip.log.clear()
        disk.write(3, 7)
        # Of block 0 only sector 1 is still of use.
        self.assertEqual([entry[:3] for entry in chip.log], [("write", 3, 0), ("erase", 0), ("write", 3, 1)])
        self.assertEqual([entry[3][:2] for entry in chip.log if entry[0] == "write"], [(1, 2), (3, 7)])
        self.assertEqual(values_of(disk), [5, 2, 6, 7])

    def test_a_block_without_use_is_erased_and_nothing_is_moved(self):
        chip = SpyChip(4, 2)
        disk = mounted(chip, 4)
        for step in range(6):
            disk.write(0, step)
        chip.log.clear()
        disk.write(0, 9)
        self.assertEqual([entry[:3] for entry in chip.log], [("erase", 0), ("write", 3, 0)])

    def test_blocks_that_are_all_of_use_are_moved_till_there_is_room(self):
        chip = SpyChip(4, 2)
        disk = mounted(chip, 4)
        for sector in (0, 1, 2, 3, 3, 3):
            disk.write(sector, sector + 1)
        chip.log.clear()
        disk.write(0, 9)
        told = [("write", 3, 0), ("write", 3, 1), ("erase", 0), ("write", 0, 0), ("erase", 1), ("write", 0, 1)]
        self.assertEqual([entry[:3] for entry in chip.log], told)
        self.assertEqual(values_of(disk), [9, 2, 3, 4])

    def test_one_block_at_least_is_erased_behind_each_write(self):
        for blocks, pages in SMALL:
            for sectors in some_sectors(Chip(blocks, pages)):
                for run in runs(sectors, 100):
                    chip = Chip(blocks, pages)
                    disk = mounted(chip, sectors)
                    for step, sector in enumerate(run):
                        disk.write(sector, step)
                        self.assertTrue(has_erased_block(chip))

    def test_a_torn_page_is_passed_over(self):
        for torn in itertools.product((False, True), repeat=6):
            chip = SpyChip(5, 2)
            disk = mounted(chip, 3)
            for step in range(6):
                if torn[step]:
                    self.cut_write(chip, disk, step % 3, 5)
                    disk = self.assert_mount_does_nothing(chip, 3)
                else:
                    disk.write(step % 3, 6)
            self.assertEqual(chip.places(), ring_places(5, 2, 6))
            told = ["torn" if cut else "whole" for cut in torn]
            found = ["torn" if chip.page(*place) == "torn" else "whole" for place in chip.places()]
            self.assertEqual(found, told)
            disk.write(0, 7)
            self.assertEqual(chip.places(), ring_places(5, 2, 7))
            self.assertEqual(wear_of(chip), [0] * 5)

    def test_a_torn_page_behind_a_cleaning_is_passed_over(self):
        chip = SpyChip(4, 4)
        disk = mounted(chip, 5)
        for sector in (0, 1, 2, 3, 4, 1, 2, 3, 4, 1, 2, 3):
            disk.write(sector, sector + 10)
        disk.write(4, 20)
        # Sector 0 was moved to page 0 of block 3, and block 0 erased.
        self.assertEqual(chip.places()[-2:], [(3, 0), (3, 1)])
        self.cut_write(chip, disk, 0, 21)
        self.assertEqual(chip.page(3, 2), "torn")
        disk = self.assert_mount_does_nothing(chip, 5)
        self.assertEqual(values_of(disk), [10, 11, 12, 13, 20])
        disk.write(0, 22)
        self.assertEqual(chip.places()[-1], (3, 3))
        self.assertEqual(wear_of(chip), [1, 0, 0, 0])
        self.assertEqual(values_of(disk), [22, 11, 12, 13, 20])

    def cut_cleaning(self, many):
        """Two whole pages of block 0 go to block 3, then block 0 is erased: cut behind so many of these."""
        chip = SpyChip(4, 3)
        disk = mounted(chip, 5)
        for sector in (0, 1, 2, 3, 4, 2, 3, 4, 2):
            disk.write(sector, sector + 1)
        self.cut_write(chip, disk, 4, 9, many)
        self.assertFalse(has_erased_block(chip))
        chip.log.clear()
        disk = mounted(chip, 5)
        self.assertEqual(values_of(disk), [1, 2, 3, 4, 5])
        return chip, disk

    def test_a_cut_cleaning_is_taken_back(self):
        for many in (0, 1):
            chip, disk = self.cut_cleaning(many)
            self.assertEqual(chip.log, [("erase", 3)])
            disk.write(4, 10)
            told = [("erase", 3), ("write", 3, 0), ("write", 3, 1), ("erase", 0), ("write", 3, 2)]
            self.assertEqual([entry[:3] for entry in chip.log], told)
            self.assertEqual(values_of(disk), [1, 2, 3, 4, 10])

    def test_a_cut_erasure_is_done_anew(self):
        chip, disk = self.cut_cleaning(2)
        self.assertEqual(chip.log, [("erase", 0)])
        disk.write(4, 10)
        self.assertEqual([entry[:3] for entry in chip.log], [("erase", 0), ("write", 3, 2)])
        self.assertEqual(values_of(disk), [1, 2, 3, 4, 10])

    def test_a_cut_cleaning_while_a_block_has_only_torn_pages(self):
        chip = SpyChip(4, 2)
        disk = mounted(chip, 3)
        disk.write(0, 1)
        disk.write(1, 2)
        for times in range(2):
            self.cut_write(chip, disk, 2, 3)
            disk = mounted(chip, 3)
        disk.write(2, 4)
        disk.write(2, 5)
        # Block 0 goes to block 3; block 1 has no whole page all along.
        self.cut_write(chip, disk, 2, 6, 1)
        chip.log.clear()
        disk = mounted(chip, 3)
        self.assertEqual(chip.log, [("erase", 3)])
        self.assertEqual(values_of(disk), [1, 2, 5])
        disk.write(2, 7)
        self.assertEqual(values_of(mounted(chip, 3)), [1, 2, 7])


class WearTest(DiskCase):
    def test_without_cuts(self):
        for blocks, pages in SIZES:
            for sectors in some_sectors(Chip(blocks, pages)):
                for run in runs(sectors, 250):
                    chip = Chip(blocks, pages)
                    disk = mounted(chip, sectors)
                    for step, sector in enumerate(run):
                        disk.write(sector, step)
                        self.assertLessEqual(spread(chip), 1)

    def test_all_blocks_are_worn_in_the_end(self):
        chip = Chip(4, 2)
        disk = mounted(chip, 4)
        for sector in range(4):
            disk.write(sector, 1)
        for step in range(400):
            disk.write(0, step)
        self.assertGreater(min(wear_of(chip)), 50)

    def test_with_cuts(self):
        for (blocks, pages), gap in itertools.product(SMALL, (1, 2, 3, 10, 40)):
            for sectors in some_sectors(Chip(blocks, pages)):
                chance = counts(blocks + pages + gap + sectors)
                chip = Chip(blocks, pages)
                disk = mounted(chip, sectors)
                cuts = 0
                for step in range(200):
                    chip.power(next(chance) % gap)
                    try:
                        disk.write(next(chance) % sectors, step)
                    except Cut:
                        cuts = self.mount_at_last(chip, sectors, cuts + 1, next(chance) % 3)
                        disk = mounted(chip, sectors)
                    self.assertLessEqual(spread(chip), 1 + cuts)

    def mount_at_last(self, chip, sectors, cuts, times):
        """Mounts, behind being cut so many times; each mounting writes nothing and erases one block at most."""
        for many in [0] * times + [None]:
            chip.power(many)
            worn, written = sum(wear_of(chip)), chip.written()
            try:
                mounted(chip, sectors)
            except Cut:
                cuts = cuts + 1
            self.assertLessEqual(sum(wear_of(chip)), worn + 1)
            self.assertEqual(chip.written(), written)
            self.assertLessEqual(spread(chip), 1 + cuts)
        return cuts

    def test_one_cut_at_the_same_place_again_and_again(self):
        # Cut amid each cleaning: only what the cut itself costs is worn more.
        for many in range(4):
            chip = Chip(4, 2)
            disk = mounted(chip, 4)
            cuts = 0
            for step in range(120):
                chip.power(many)
                try:
                    disk.write(step % 4, step)
                except Cut:
                    cuts = self.mount_at_last(chip, 4, cuts + 1, step % 2)
                    chip.power(None)
                    disk = mounted(chip, 4)
                    disk.write(step % 4, step)
                self.assertLessEqual(spread(chip), 1 + cuts)

    def test_what_one_write_may_write_and_erase(self):
        for blocks, pages in SIZES:
            for sectors in some_sectors(Chip(blocks, pages)):
                for run in runs(sectors, 150):
                    chip = Chip(blocks, pages)
                    disk = mounted(chip, sectors)
                    for step, sector in enumerate(run):
                        self.assert_one_write_is_bounded(chip, disk, sector, step)

    def test_what_one_write_may_write_and_erase_behind_cuts(self):
        for blocks, pages in SMALL:
            for sectors in some_sectors(Chip(blocks, pages)):
                chip = Chip(blocks, pages)
                disk = mounted(chip, sectors)
                for step in range(150):
                    if step % 2:
                        chip.power(step % 5)
                        try:
                            disk.write(step % sectors, step)
                        except Cut:
                            pass
                        chip.power(None)
                        disk = mounted(chip, sectors)
                    self.assert_one_write_is_bounded(chip, disk, step * 3 % sectors, step)

    def assert_one_write_is_bounded(self, chip, disk, sector, content):
        blocks, pages = chip.size()
        worn, written = sum(wear_of(chip)), chip.written()
        disk.write(sector, content)
        self.assertLessEqual(chip.written() - written, (blocks - 1) * pages + 1)
        self.assertLessEqual(sum(wear_of(chip)) - worn, blocks)


if __name__ == "__main__":
    unittest.main()
