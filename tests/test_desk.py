"""Point [30]: the desk, its rows, their answers and which refusal is due."""

import unittest

from evenwear.desk import play

ROWS = ("write 0 5", "read 0", "power 0", "power all", "mount", "worn 0", "written", "page 0 0")
# The power is cut amid the first page of a cleaning, so that mounting erases a block.
CUT_CLEANING = ["chip 4 2 4"] + [f"write {min(step, 3)} {step + 1}" for step in range(6)] + ["power 0", "write 0 9"]


def answers(*rows):
    return play("\n".join(rows))


def last(*rows):
    return answers(*rows)[-1]


class DeskCase(unittest.TestCase):
    def assert_played(self, *pairs):
        """Each pair is a row and its answer."""
        self.assertEqual(answers(*[row for row, answer in pairs]), [answer for row, answer in pairs])


class RowsTest(DeskCase):
    def test_each_row_when_it_goes(self):
        self.assert_played(
            ("chip 4 2 4", "ok"), ("read 3", "0"), ("written", "0"), ("worn 3", "0"), ("page 0 0", "erased"),
            ("write 3 17", "ok"), ("read 3", "17"), ("written", "1"), ("page 0 0", "whole"), ("page 0 1", "erased"),
            ("mount", "ok"), ("read 3", "17"), ("power 1", "ok"), ("write 0 999999999999", "ok"),
            ("read 0", "999999999999"), ("write 0 0", "refused: Cut"), ("page 1 0", "torn"), ("written", "3"),
            ("power all", "ok"), ("mount", "ok"), ("read 0", "999999999999"), ("write 0 0", "ok"), ("read 0", "0"),
            ("page 1 1", "whole"), ("worn 1", "0"),
        )

    def test_the_answers_are_a_list_of_texts(self):
        told = play("chip 4 2 4\nread 0\nwritten\nworn 0\npage 0 0\nno\n")
        self.assertIsInstance(told, list)
        self.assertEqual([type(answer) for answer in told], [str] * 6)

    def test_the_greatest_and_the_least_chip(self):
        self.assert_played(
            ("chip 32 16 480", "ok"), ("write 479 6", "ok"), ("read 479", "6"), ("page 31 15", "erased"),
            ("worn 31", "0"), ("chip 4 2 1", "ok"), ("read 0", "0"), ("read 1", "refused: NoSector"),
            ("page 3 1", "erased"), ("page 4 0", "refused: NoPage"),
        )

    def test_worn_counts_up(self):
        rows = ["chip 4 2 1"] + [f"write 0 {step}" for step in range(7)]
        self.assertEqual(answers(*rows, "worn 0", "worn 1", "written")[-3:], ["1", "0", "7"])

    def test_power_counts_from_its_row_on(self):
        rows = ["chip 4 4 8", "power 2", "write 0 1", "power 2", "write 0 2", "write 0 3", "write 0 4"]
        self.assertEqual(answers(*rows), ["ok"] * 6 + ["refused: Cut"])
        rows = ["chip 4 2 4", "power 999999999999", "write 0 1", "power 0", "power all", "write 0 2"]
        self.assertEqual(answers(*rows), ["ok"] * 6)

    def test_a_new_chip_in_the_place_of_the_old_one(self):
        self.assert_played(
            ("chip 4 2 4", "ok"), ("write 0 5", "ok"), ("power 0", "ok"), ("chip 5 3 9", "ok"), ("read 0", "0"),
            ("written", "0"), ("page 4 2", "erased"), ("write 8 1", "ok"), ("read 8", "1"), ("mount", "ok"),
            ("read 8", "1"),
        )

    def test_long_use_with_mounts(self):
        rows, told = ["chip 4 3 6"], ["ok"]
        for step in range(200):
            rows += [f"write {step % 6} {step}", "mount", f"read {step % 6}"]
            told += ["ok", "ok", str(step)]
        self.assertEqual(answers(*rows), told)


class BlankRowsTest(DeskCase):
    def test_rows_of_nothing_or_of_blanks_are_passed_over(self):
        for text in ("", " ", "\n", "\n\n\n", "   \n \n", "     "):
            self.assertEqual(play(text), [], repr(text))
        self.assertEqual(play("\n  \nchip 4 2 4\n\n \nread 0\n\n"), ["ok", "0"])

    def test_the_last_row_needs_no_line_feed(self):
        self.assertEqual(play("chip 4 2 4\nread 0"), play("chip 4 2 4\nread 0\n"))

    def test_other_signs_are_no_blanks(self):
        for row in ("\t", " \t ", "\r", "\v", "\f", "\u00a0", "\u2003", "\u2028"):
            self.assertEqual(play(row), ["refused: BadRow"], repr(row))

    def test_rows_are_parted_by_line_feeds_alone(self):
        for sign in ("\r", "\v", "\f", "\u0085", "\u2028", ";", "\r\n"):
            told = play(f"chip 4 2 4{sign}read 0")
            self.assertEqual(told[0], "refused: BadRow", repr(sign))
            self.assertEqual(len(told), 2 if "\n" in sign else 1)


class BadRowTest(DeskCase):
    BAD = (
        "chip", "chip 4", "chip 4 2", "chip 4 2 4 1", "write", "write 0", "write 0 1 2", "read", "read 0 0",
        "power", "power 0 0", "power all all", "power None", "power al", "power none", "mount 0", "mount mount",
        "worn", "worn 0 0", "written 0", "page", "page 0", "page 0 0 0", "erase 0", "size", "wr", "0", "0 0", "all",
        "Chip 4 2 4", "CHIP 4 2 4", "Write 0 1", "READ 0", "power ALL", "power All", "Mount", "WORN 0", "Written",
        "Page 0 0", " read 0", "read 0 ", "read  0", "  read 0", "write 0  1", "write  0 1", "write 0 1 ",
        "chip 4 2  4", " mount", "mount ", "power  all", "power all ", " power all", "written ", " written",
        "page 0  0", "worn 0 ", "read\t0", "\tread 0", "read 0\t", "read \t0", "mount\t", "read 0\r", "read0",
        "write 0,1", "write 0 1;", "read all", "worn all", "write all 1", "write 0 all", "page 0 all", "-", "#",
        "read 0 # that", "chips 4 2 4", "reads 0", "refused: BadRow", "ok",
    )
    BAD_NUMBERS = (
        "00", "01", "007", "000000000000", "0000000000001", "1000000000000", "9999999999999", "1" * 40, "+1", "-1",
        "-0", "+0", "1.0", "1.", ".5", "1e3", "0x1", "1_0", "1,0", "a", "1a", "a1", "None", "True", "'1'", "(1)", "",
        "\u0661", "\u00b2", "\uff11", "1\u0661", "\u096a", "1\u00a0", "\t1", "1\t", "1\r",
    )

    def test_rows_that_are_none(self):
        for row in self.BAD:
            self.assertEqual(play(row), ["refused: BadRow"], repr(row))
            self.assertEqual(last("chip 4 2 4", "power 0", "write 0 1", row), "refused: BadRow", repr(row))

    def test_numbers_that_are_none(self):
        rows = ("chip N 2 4", "chip 4 N 4", "chip 4 2 N", "write N 1", "write 0 N", "read N", "power N", "worn N",
                "page N 0", "page 0 N")
        for number in self.BAD_NUMBERS:
            for row in rows:
                given = row.replace("N", number)
                self.assertEqual(play(given), ["refused: BadRow"], repr(given))
                self.assertEqual(last("chip 4 2 4", given), "refused: BadRow", repr(given))

    def test_a_number_too_long_for_python_to_turn_to_one(self):
        self.assertEqual(last("chip 4 2 4", "write 0 " + "9" * 6000), "refused: BadRow")

    def test_numbers_that_go(self):
        for number in ("0", "1", "10", "100000000000", "999999999999", "123456789012"):
            self.assertEqual(last("chip 4 2 4", f"write 0 {number}", "read 0"), number)

    def test_ahead_of_all_others(self):
        self.assert_played(
            ("read 00", "refused: BadRow"), ("mount ", "refused: BadRow"), ("chip 04 2 4", "refused: BadRow"),
            ("chip 4 2 4", "ok"), ("read 04", "refused: BadRow"), ("page 04 0", "refused: BadRow"),
            ("write 9 1000000000000", "refused: BadRow"), ("chip 3 2 01", "refused: BadRow"), ("power 0", "ok"),
            ("write 0 01", "refused: BadRow"), ("write 0 1", "refused: Cut"), ("write 0 01", "refused: BadRow"),
        )

    def test_it_changes_nothing(self):
        rows = ["chip 4 2 4", "write 0 5", "power 1"]
        rows += list(self.BAD) + ["write 1 6", "read 0", "read 1", "written", "write 1 7"]
        self.assertEqual(answers(*rows)[-5:], ["ok", "5", "6", "2", "refused: Cut"])


class NoDiskTest(DeskCase):
    def test_without_a_chip(self):
        for row in ROWS:
            self.assertEqual(play(row), ["refused: NoDisk"], row)
        self.assertEqual(answers(*ROWS), ["refused: NoDisk"] * len(ROWS))
        for row in ("write 999 0", "read 999", "worn 99", "page 99 99"):
            self.assertEqual(play(row), ["refused: NoDisk"], row)

    def test_without_a_chip_behind_one_that_is_refused(self):
        for row in ROWS:
            self.assertEqual(answers("chip 3 2 1", row), ["refused: BadSize", "refused: NoDisk"], row)
            self.assertEqual(answers("chip 4 2 5", row), ["refused: BadSize", "refused: NoDisk"], row)

    def test_a_power_row_without_a_chip_is_not_kept(self):
        self.assertEqual(answers("power 0", "chip 4 2 4", "write 0 1"), ["refused: NoDisk", "ok", "ok"])

    def test_from_a_cut_on_till_mount_has_gone_through(self):
        self.assert_played(
            ("chip 4 2 4", "ok"), ("write 0 5", "ok"), ("power 0", "ok"), ("write 0 6", "refused: Cut"),
            ("write 0 6", "refused: NoDisk"), ("read 0", "refused: NoDisk"), ("read 9", "refused: NoDisk"),
            ("write 9 0", "refused: NoDisk"), ("worn 0", "0"), ("worn 4", "refused: NoPage"), ("written", "2"),
            ("page 0 1", "torn"), ("page 9 9", "refused: NoPage"), ("power all", "ok"), ("read 0", "refused: NoDisk"),
            ("write 0 6", "refused: NoDisk"), ("chip 3 2 4", "refused: BadSize"), ("read 0", "refused: NoDisk"),
            ("page 0 0", "whole"), ("mount", "ok"), ("read 0", "5"), ("write 0 7", "ok"), ("read 0", "7"),
        )

    def test_a_new_chip_ends_it_too(self):
        self.assert_played(
            ("chip 4 2 4", "ok"), ("power 0", "ok"), ("write 0 6", "refused: Cut"), ("chip 4 2 3", "ok"),
            ("read 0", "0"), ("write 2 6", "ok"), ("read 2", "6"), ("read 3", "refused: NoSector"),
        )

    def test_a_mount_that_is_cut_does_not_end_it(self):
        self.assertEqual(last(*CUT_CLEANING), "refused: Cut")
        rows = ["mount", "power 0", "mount", "read 0", "worn 3", "mount", "worn 3", "power 0", "mount", "worn 3",
                "write 0 1", "page 3 1", "power 1", "mount", "worn 3", "read 0", "write 0 9", "read 0", "power all",
                "mount", "read 0", "write 0 9", "read 0"]
        told = ["refused: Cut", "ok", "refused: Cut", "refused: NoDisk", "1", "refused: Cut", "1", "ok",
                "refused: Cut", "2", "refused: NoDisk", "torn", "ok", "ok", "3", "1", "refused: Cut",
                "refused: NoDisk", "ok", "ok", "1", "ok", "9"]
        self.assertEqual(answers(*CUT_CLEANING, *rows)[len(CUT_CLEANING):], told)

    def test_a_mount_without_power_that_erases_nothing_goes(self):
        self.assert_played(
            ("chip 4 2 4", "ok"), ("write 0 5", "ok"), ("power 0", "ok"), ("write 0 6", "refused: Cut"),
            ("mount", "ok"), ("read 0", "5"), ("write 0 6", "refused: Cut"), ("read 0", "refused: NoDisk"),
        )

    def test_other_refusals_leave_the_disk(self):
        self.assert_played(
            ("chip 4 2 4", "ok"), ("write 0 5", "ok"), ("write 4 0", "refused: NoSector"), ("read 0", "5"),
            ("page 4 0", "refused: NoPage"), ("read 0", "5"), ("worn 4", "refused: NoPage"), ("read 0", "5"),
            ("no", "refused: BadRow"), ("read 0", "5"), ("chip 0 0 0", "refused: BadSize"), ("read 0", "5"),
        )


class OtherRefusalsTest(DeskCase):
    def test_bad_size(self):
        for row in ("chip 3 2 1", "chip 33 2 1", "chip 4 1 1", "chip 4 17 1", "chip 4 2 0", "chip 4 2 5",
                    "chip 32 16 481", "chip 0 0 0", "chip 999999999999 999999999999 999999999999"):
            self.assertEqual(play(row), ["refused: BadSize"], row)
            rows = ["chip 5 3 9", "write 8 4", "power 1", row, "read 8", "page 4 2", "written", "write 0 1", "write 0 2"]
            told = ["ok", "ok", "ok", "refused: BadSize", "4", "erased", "1", "ok", "refused: Cut"]
            self.assertEqual(answers(*rows), told, row)

    def test_a_refused_chip_leaves_how_many_sectors_a_mount_makes(self):
        self.assert_played(
            ("chip 5 3 9", "ok"), ("write 8 4", "ok"), ("chip 5 3 10", "refused: BadSize"),
            ("chip 3 3 2", "refused: BadSize"), ("mount", "ok"), ("read 8", "4"), ("read 9", "refused: NoSector"),
        )

    def test_no_sector(self):
        for row in ("read 4", "read 999999999999", "write 4 0", "write 999999999999 999999999999"):
            self.assertEqual(answers("chip 4 2 4", row, "written"), ["ok", "refused: NoSector", "0"], row)
            self.assertEqual(last("chip 4 2 4", "power 0", row), "refused: NoSector", row)

    def test_no_page(self):
        for row in ("page 4 0", "page 0 2", "page 4 2", "page 999999999999 0", "worn 4", "worn 999999999999"):
            self.assertEqual(last("chip 4 2 4", row), "refused: NoPage", row)

    def test_cut(self):
        self.assertEqual(answers("chip 4 2 4", "power 0", "write 3 1", "written"), ["ok", "ok", "refused: Cut", "1"])

    def test_what_is_refused_changes_nothing(self):
        refused = ("no", "read 4", "write 4 1", "page 4 0", "worn 4", "chip 3 2 1", "chip 4 2 5", "write 0 01")
        rows = ["chip 4 2 4"] + [f"write {step % 4} {step}" for step in range(9)]
        asked = [f"page {block} {page}" for block in range(4) for page in range(2)]
        asked += [f"worn {block}" for block in range(4)] + ["written"] + [f"read {sector}" for sector in range(4)]
        self.assertEqual(answers(*rows, *refused, *asked)[-len(asked):], answers(*rows, *asked)[-len(asked):])


class AgainTest(DeskCase):
    def test_the_same_text_answers_the_same(self):
        rows = CUT_CLEANING + ["power all", "mount", "read 0", "written", "worn 3", "no", "write 0 5", "read 0"]
        first = answers(*rows)
        for times in range(3):
            self.assertEqual(answers(*rows), first)

    def test_a_play_knows_nothing_of_another(self):
        play("chip 4 2 4\nwrite 0 5")
        self.assertEqual(play("read 0"), ["refused: NoDisk"])

    def test_the_list_is_the_askers_own(self):
        told = play("chip 4 2 4\nread 0")
        told.append("more")
        self.assertEqual(play("chip 4 2 4\nread 0"), ["ok", "0"])


if __name__ == "__main__":
    unittest.main()
