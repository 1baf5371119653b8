"""Points [1], [2] and [10] to [13]: the chip, its wear, its power and its copies."""

import itertools
import unittest

from evenwear.chips import Chip, copied
from evenwear.errors import BadSize, Cut, NoPage, NotErased, WearError

# The last ones have more figures than Python turns into a text.
FAR = (10 ** 30, -(10 ** 30), 10 ** 5000, -(10 ** 5000))
THING = (3, 17, 40)


def seen(chip):
    """All that can be asked of a chip."""
    blocks, pages = chip.size()
    held = [[chip.page(block, page) for page in range(pages)] for block in range(blocks)]
    return (chip.size(), held, [chip.worn(block) for block in range(blocks)], chip.written())


def used_chip():
    """A chip with whole, torn and erased pages, and blocks worn unlike."""
    chip = Chip(5, 3)
    chip.write(0, 0, (1,))
    chip.write(0, 1, (2, "two"))
    chip.erase(1)
    chip.erase(1)
    chip.write(1, 2, ())
    for attempt in (lambda: chip.write(2, 0, (9,)), lambda: chip.erase(3)):
        chip.power(0)
        try:
            attempt()
        except Cut:
            pass
    chip.power(None)
    return chip


class ChipCase(unittest.TestCase):
    def assert_refused(self, refusal, chip, method, *given):
        before = seen(chip)
        with self.assertRaises(refusal):
            getattr(chip, method)(*given)
        self.assertEqual(seen(chip), before)


class SizeTest(ChipCase):
    def test_sizes_that_go(self):
        for blocks, pages in itertools.product((4, 5, 31, 32), (2, 3, 15, 16)):
            with self.subTest(blocks=blocks, pages=pages):
                self.assertEqual(Chip(blocks, pages).size(), (blocks, pages))
                self.assertIsInstance(Chip(blocks, pages).size(), tuple)

    def test_bad_blocks(self):
        for blocks in (3, 33, 1, 0, -1, -4) + FAR:
            for pages in (2, 16):
                with self.assertRaises(BadSize):
                    Chip(blocks, pages)

    def test_bad_pages(self):
        for pages in (1, 17, 0, -1, -2) + FAR:
            for blocks in (4, 32):
                with self.assertRaises(BadSize):
                    Chip(blocks, pages)

    def test_both_bad(self):
        for blocks, pages in ((3, 1), (33, 17), (0, 0), (-4, -2), (10 ** 5000, 10 ** 5000)):
            with self.assertRaises(BadSize):
                Chip(blocks, pages)


class PageTest(ChipCase):
    def test_all_is_erased_and_unworn_at_first(self):
        for blocks, pages in ((4, 2), (32, 16), (7, 5)):
            chip = Chip(blocks, pages)
            self.assertEqual(seen(chip), ((blocks, pages), [[None] * pages] * blocks, [0] * blocks, 0))

    def test_page_tells_what_was_written(self):
        chip = Chip(4, 2)
        things = [(), (0,), (None,), ("torn",), (1, "a", (2, 3)), (10 ** 30, -5), THING, (1,)]
        places = list(itertools.product(range(4), range(2)))
        for (block, page), thing in zip(places, things, strict=True):
            chip.write(block, page, thing)
        for (block, page), thing in zip(places, things, strict=True):
            self.assertEqual(chip.page(block, page), thing)
            self.assertIsInstance(chip.page(block, page), tuple)

    def test_page_tells_torn(self):
        chip = Chip(4, 2)
        chip.power(0)
        with self.assertRaises(Cut):
            chip.write(1, 1, THING)
        self.assertEqual(chip.page(1, 1), "torn")
        self.assertIsNone(chip.page(1, 0))

    def test_no_page(self):
        chip = used_chip()
        for block in (-1, -5, 5, 6) + FAR:
            self.assert_refused(NoPage, chip, "page", block, 0)
        for page in (-1, -3, 3, 4) + FAR:
            self.assert_refused(NoPage, chip, "page", 0, page)
        self.assert_refused(NoPage, chip, "page", 5, 3)

    def test_the_blocks_and_the_pages_are_not_mixed_up(self):
        chip = Chip(4, 6)
        self.assertIsNone(chip.page(3, 5))
        self.assert_refused(NoPage, chip, "page", 5, 3)
        self.assert_refused(NoPage, chip, "write", 5, 3, THING)
        chip.write(3, 5, THING)
        self.assertEqual(chip.page(3, 5), THING)


class WriteTest(ChipCase):
    def test_one_behind_the_other(self):
        chip = Chip(4, 16)
        for page in range(16):
            self.assertIsNone(chip.write(2, page, (page,)))
        self.assertEqual([chip.page(2, page) for page in range(16)], [(page,) for page in range(16)])
        self.assertEqual(chip.written(), 16)

    def test_pages_may_be_passed_over(self):
        chip = Chip(4, 5)
        chip.write(0, 1, (1,))
        chip.write(0, 4, (4,))
        self.assertEqual([chip.page(0, page) for page in range(5)], [None, (1,), None, None, (4,)])

    def test_not_erased_where_the_page_is_not(self):
        chip = Chip(4, 3)
        chip.write(0, 0, THING)
        self.assert_refused(NotErased, chip, "write", 0, 0, (5,))
        self.assert_refused(NotErased, chip, "write", 0, 0, THING)

    def test_not_erased_where_one_behind_is_not(self):
        chip = Chip(4, 4)
        chip.write(0, 3, THING)
        for page in range(4):
            self.assert_refused(NotErased, chip, "write", 0, page, (5,))

    def test_not_erased_behind_an_empty_tuple(self):
        chip = Chip(4, 3)
        chip.write(0, 1, ())
        for page in (0, 1):
            self.assert_refused(NotErased, chip, "write", 0, page, (5,))

    def test_not_erased_where_a_page_is_torn(self):
        chip = Chip(4, 3)
        chip.power(0)
        with self.assertRaises(Cut):
            chip.write(0, 1, THING)
        chip.power(None)
        for page in (0, 1):
            self.assert_refused(NotErased, chip, "write", 0, page, (5,))
        chip.write(0, 2, (5,))
        self.assertEqual([chip.page(0, page) for page in range(3)], [None, "torn", (5,)])

    def test_another_block_is_no_hindrance(self):
        chip = Chip(4, 2)
        chip.write(0, 1, THING)
        chip.write(2, 1, THING)
        chip.write(1, 0, (5,))
        self.assertEqual(chip.page(1, 0), (5,))

    def test_no_page(self):
        chip = used_chip()
        for block in (-1, -5, 5, 6) + FAR:
            self.assert_refused(NoPage, chip, "write", block, 0, THING)
        for page in (-1, -3, 3, 4) + FAR:
            self.assert_refused(NoPage, chip, "write", 4, page, THING)
            self.assert_refused(NoPage, chip, "write", 0, page, THING)

    def test_what_is_handed_in_stays(self):
        thing = (1, [2, 3], {"four": 5})
        Chip(4, 2).write(0, 0, thing)
        self.assertEqual(thing, (1, [2, 3], {"four": 5}))


class EraseTest(ChipCase):
    def test_erase_makes_all_pages_of_the_block_erased(self):
        chip = Chip(4, 3)
        for block, page in itertools.product(range(4), range(3)):
            chip.write(block, page, (block, page))
        self.assertIsNone(chip.erase(2))
        for block, page in itertools.product(range(4), range(3)):
            self.assertEqual(chip.page(block, page), None if block == 2 else (block, page))

    def test_an_erased_block_is_written_again(self):
        chip = Chip(4, 2)
        chip.write(3, 1, (1,))
        chip.erase(3)
        chip.write(3, 0, (2,))
        chip.write(3, 1, (3,))
        self.assertEqual([chip.page(3, 0), chip.page(3, 1)], [(2,), (3,)])

    def test_torn_pages_are_erased(self):
        chip = used_chip()
        chip.erase(2)
        chip.erase(3)
        for block in (2, 3):
            self.assertEqual([chip.page(block, page) for page in range(3)], [None] * 3)

    def test_no_page(self):
        chip = used_chip()
        for block in (-1, -5, 5, 6) + FAR:
            self.assert_refused(NoPage, chip, "erase", block)


class CountTest(ChipCase):
    def test_worn_counts_each_block_by_itself(self):
        chip = Chip(4, 2)
        for block in (0, 2, 2, 3, 2):
            chip.erase(block)
        self.assertEqual([chip.worn(block) for block in range(4)], [1, 0, 3, 1])
        self.assertEqual(chip.written(), 0)

    def test_written_counts_over_all_blocks_and_erasures(self):
        chip = Chip(4, 2)
        for page in range(2):
            chip.write(0, page, THING)
        chip.write(1, 1, THING)
        chip.erase(0)
        chip.write(0, 0, THING)
        self.assertEqual(chip.written(), 4)

    def test_cut_ones_are_counted(self):
        chip = Chip(4, 2)
        chip.power(0)
        with self.assertRaises(Cut):
            chip.write(0, 0, THING)
        self.assertEqual((chip.written(), chip.worn(0)), (1, 0))
        chip.power(0)
        with self.assertRaises(Cut):
            chip.erase(1)
        self.assertEqual((chip.written(), chip.worn(0), chip.worn(1)), (1, 0, 1))

    def test_worn_of_a_block_that_is_not_there(self):
        chip = used_chip()
        for block in (-1, -5, 5, 6) + FAR:
            self.assert_refused(NoPage, chip, "worn", block)


class PowerTest(ChipCase):
    def assert_without_power(self, chip):
        """Further ones do nothing and count nothing; refusals stay as they are."""
        for times in range(3):
            self.assert_refused(Cut, chip, "erase", 0)
            self.assert_refused(Cut, chip, "write", 3, 1, THING)
            self.assert_refused(NoPage, chip, "erase", 4)
            self.assert_refused(NoPage, chip, "write", 4, 0, THING)
            self.assert_refused(NoPage, chip, "write", 0, -1, THING)

    def test_all_goes_well_at_first(self):
        chip = Chip(4, 2)
        for times in range(300):
            chip.write(times % 4, 1, THING)
            chip.erase(times % 4)
        self.assertEqual((chip.written(), chip.worn(0)), (300, 75))

    def test_a_cut_write_leaves_its_page_torn(self):
        chip = Chip(4, 3)
        chip.write(0, 0, (1,))
        self.assertIsNone(chip.power(0))
        with self.assertRaises(Cut):
            chip.write(0, 1, (2,))
        self.assertEqual([chip.page(0, page) for page in range(3)], [(1,), "torn", None])
        self.assertEqual(chip.written(), 2)
        self.assert_without_power(chip)

    def test_a_cut_erasure_leaves_all_pages_of_its_block_torn(self):
        chip = Chip(4, 3)
        for block in range(4):
            chip.write(block, 0, (block,))
        chip.power(0)
        with self.assertRaises(Cut):
            chip.erase(1)
        held = seen(chip)[1]
        self.assertEqual(held, [[(0,), None, None], ["torn"] * 3, [(2,), None, None], [(3,), None, None]])
        self.assertEqual([chip.worn(block) for block in range(4)], [0, 1, 0, 0])
        self.assert_without_power(chip)

    def test_a_cut_erasure_tears_erased_pages_too(self):
        chip = Chip(4, 2)
        chip.power(0)
        with self.assertRaises(Cut):
            chip.erase(0)
        self.assertEqual([chip.page(0, 0), chip.page(0, 1)], ["torn", "torn"])
        chip.power(None)
        self.assert_refused(NotErased, chip, "write", 0, 1, THING)

    def test_so_many_go_well(self):
        for many in range(1, 6):
            chip = Chip(4, 16)
            chip.power(many)
            for page in range(many):
                chip.write(0, page, (page,))
            with self.assertRaises(Cut):
                chip.write(0, many, (many,))
            held = [chip.page(0, page) for page in range(many + 2)]
            self.assertEqual(held, [(page,) for page in range(many)] + ["torn", None])
            self.assertEqual(chip.written(), many + 1)
            self.assert_without_power(chip)

    def test_writes_and_erasures_draw_on_one_power(self):
        chip = Chip(4, 2)
        chip.power(3)
        chip.write(0, 0, THING)
        chip.erase(0)
        chip.write(0, 1, THING)
        with self.assertRaises(Cut):
            chip.erase(1)
        self.assertEqual([chip.worn(0), chip.worn(1), chip.written()], [1, 1, 2])

    def test_nothing_else_draws_on_it(self):
        chip = Chip(4, 2)
        chip.write(0, 1, THING)
        chip.power(1)
        for times in range(4):
            seen(chip)
            copied(chip)
            for refused in ((0, 0), (0, 1), (4, 0), (0, 2)):
                with self.assertRaises((NoPage, NotErased)):
                    chip.write(*refused, THING)
            with self.assertRaises(NoPage):
                chip.erase(-1)
        chip.write(1, 0, THING)
        self.assertEqual(chip.page(1, 0), THING)
        self.assertEqual(chip.written(), 2)

    def test_refusals_go_before_the_cut(self):
        chip = Chip(4, 2)
        chip.write(0, 1, THING)
        chip.power(0)
        self.assert_refused(NotErased, chip, "write", 0, 0, (1,))
        self.assert_refused(NotErased, chip, "write", 0, 1, (1,))
        self.assert_refused(NoPage, chip, "write", 0, 2, (1,))
        self.assert_refused(NoPage, chip, "erase", 4)
        with self.assertRaises(Cut):
            chip.write(1, 0, THING)
        self.assertEqual(chip.page(1, 0), "torn")
        self.assert_refused(NotErased, chip, "write", 1, 0, THING)
        self.assert_refused(NotErased, chip, "write", 0, 0, THING)
        self.assert_without_power(chip)

    def test_power_told_again(self):
        chip = Chip(4, 3)
        for page in range(3):
            chip.power(0)
            with self.assertRaises(Cut):
                chip.write(0, page, THING)
            self.assert_without_power(chip)
        self.assertEqual([chip.page(0, page) for page in range(3)], ["torn"] * 3)
        chip.power(2)
        chip.erase(0)
        chip.write(0, 0, THING)
        with self.assertRaises(Cut):
            chip.write(0, 1, THING)
        chip.power(None)
        for times in range(50):
            chip.erase(0)
        self.assertEqual((chip.worn(0), chip.written()), (51, 5))

    def test_power_counts_from_when_it_is_told(self):
        chip = Chip(4, 4)
        chip.power(2)
        chip.write(0, 0, THING)
        chip.power(2)
        chip.write(0, 1, THING)
        chip.write(0, 2, THING)
        with self.assertRaises(Cut):
            chip.write(0, 3, THING)

    def test_all_power_in_the_place_of_some(self):
        chip = Chip(4, 2)
        chip.power(0)
        chip.power(None)
        for times in range(20):
            chip.erase(0)
        self.assertEqual(chip.worn(0), 20)

    def test_power_changes_no_page_and_no_count(self):
        chip = used_chip()
        before = seen(chip)
        for many in (0, 7, None) + FAR:
            chip.power(many)
            self.assertEqual(seen(chip), before)

    def test_numbers_far_off(self):
        chip = Chip(4, 2)
        chip.power(10 ** 5000)
        for times in range(20):
            chip.erase(0)
        for many in (-1, -(10 ** 5000)):
            chip.power(many)
            with self.assertRaises(Cut):
                chip.erase(1)
            self.assert_without_power(chip)
        self.assertEqual((chip.worn(0), chip.worn(1)), (20, 2))


class CopiedTest(ChipCase):
    def test_it_is_as_the_other(self):
        chip = used_chip()
        twin = copied(chip)
        self.assertIsInstance(twin, Chip)
        self.assertIsNot(twin, chip)
        self.assertEqual(seen(twin), seen(chip))
        self.assertEqual(seen(copied(Chip(32, 16))), seen(Chip(32, 16)))

    def test_what_is_done_at_one_does_not_touch_the_other(self):
        for swapped in (False, True):
            chip = used_chip()
            twin = copied(chip)
            used, kept = (twin, chip) if swapped else (chip, twin)
            before = seen(kept)
            used.write(0, 2, THING)
            used.write(4, 0, THING)
            used.erase(1)
            used.power(0)
            with self.assertRaises(Cut):
                used.erase(0)
            self.assertEqual(seen(kept), before)
            for times in range(9):
                kept.erase(4)
            self.assertEqual(used.worn(4), 0)

    def test_it_has_all_power(self):
        for many in (0, 1, None):
            chip = Chip(4, 2)
            chip.power(many)
            twin = copied(chip)
            for times in range(9):
                twin.erase(0)
            self.assertEqual((twin.worn(0), chip.worn(0)), (9, 0))

    def test_the_other_keeps_its_power(self):
        chip = Chip(4, 2)
        chip.power(1)
        copied(chip).erase(0)
        chip.erase(0)
        with self.assertRaises(Cut):
            chip.erase(0)

    def test_of_one_whose_power_is_cut(self):
        chip = Chip(4, 2)
        chip.power(0)
        with self.assertRaises(Cut):
            chip.write(0, 0, THING)
        twin = copied(chip)
        self.assertEqual(seen(twin), seen(chip))
        twin.write(0, 1, THING)
        twin.erase(1)
        self.assertEqual((twin.page(0, 0), twin.page(0, 1)), ("torn", THING))
        self.assert_refused(Cut, chip, "erase", 0)
        self.assertIsNone(chip.page(0, 1))


class Model:
    """The points told once more, in one dict of places, to hold the chip against."""

    def __init__(self):
        self.places = {}
        self.worn = [0] * 4
        self.written = 0
        self.left = None

    def seen(self):
        held = [[self.places.get((block, page)) for page in range(2)] for block in range(4)]
        return ((4, 2), held, list(self.worn), self.written)

    def answer(self, step):
        kind, given = step[0], step[1:]
        if kind == "power":
            self.left = given[0]
            return None
        if given[0] not in range(4) or (kind == "write" and given[1] not in range(2)):
            return NoPage
        pages = range(2) if kind == "erase" else (given[1],)
        if kind == "write" and any((given[0], page) in self.places for page in range(given[1], 2)):
            return NotErased
        if self.left == "gone":
            return Cut
        cut = self.left == 0
        self.left = "gone" if cut else self.left and self.left - 1
        self.written += kind == "write"
        self.worn[given[0]] += kind == "erase"
        for page in pages:
            self.places.pop((given[0], page), None)
            if cut or kind == "write":
                self.places[given[0], page] = "torn" if cut else given[2]
        return Cut if cut else None


class AllWaysTest(unittest.TestCase):
    STEPS = (
        ("write", 0, 0, (7,)), ("write", 0, 1, (8,)), ("write", 1, 1, ()), ("write", 4, 0, (9,)),
        ("erase", 0), ("erase", 1), ("erase", -1), ("power", 0), ("power", 2), ("power", None),
    )

    def test_every_way_of_five_steps(self):
        for way in itertools.product(self.STEPS, repeat=5):
            chip, model = Chip(4, 2), Model()
            for step in way:
                try:
                    answer = getattr(chip, step[0])(*step[1:])
                except WearError as e:
                    answer = type(e)
                if answer is not model.answer(step):
                    self.fail(f"{way}: at {step}")
            if seen(chip) != model.seen():
                self.fail(f"{way}: {seen(chip)}, not {model.seen()}")


if __name__ == "__main__":
    unittest.main()
