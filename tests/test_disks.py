"""[10.1]: disks."""

import unittest

from tellsless.disks import Disk
from tellsless.errors import NoNumber, Stopped
from tests.things import nested, strange


class Disks(unittest.TestCase):
    def test_a_new_disk_has_no_cells(self):
        disk = Disk()
        self.assertEqual(disk.cells(), {})
        self.assertEqual(disk.written(), 0)

    def test_what_was_written_last_stands_in_each_cell(self):
        disk = Disk()
        self.assertIs(disk.write("a", 1), None)
        disk.write(("said", 0), [2])
        disk.write("a", None)
        self.assertEqual(disk.cells(), {"a": None, ("said", 0): [2]})
        self.assertEqual(disk.written(), 3)

    def test_cells_are_a_new_dict_each_time(self):
        disk = Disk()
        disk.write(0, "x")
        first, second = disk.cells(), disk.cells()
        self.assertIs(type(first), dict)
        self.assertIsNot(first, second)
        first[1] = "y"
        first[0] = "z"
        self.assertEqual(second, {0: "x"})
        self.assertEqual(disk.cells(), {0: "x"})
        disk.write(2, "v")
        self.assertEqual(second, {0: "x"})

    def test_all_kinds_of_keys_and_things(self):
        disk = Disk()
        keys = [0, -5, "", "a", b"a", None, (), ("said", 0), (None, (b"", 3)), True, 10 ** 30, len, int, Disk, nested(119)]
        for number, key in enumerate(keys):
            disk.write(key, number)
        self.assertEqual(disk.cells(), {key: number for number, key in enumerate(keys)})
        self.assertEqual(disk.written(), len(keys))
        for thing in strange():
            disk.write("thing", thing)
            self.assertIs(disk.cells()["thing"], thing)

    def test_another_disk_has_other_cells(self):
        first, second = Disk(), Disk()
        first.write(0, 0)
        first.power(0)
        second.write(1, 1)
        self.assertEqual((first.cells(), second.cells()), ({0: 0}, {1: 1}))
        self.assertNotEqual(first, second)
        self.assertNotEqual(first, {0: 0})

    def test_power_lets_so_many_writes(self):
        disk = Disk()
        for many in (0, 1, 3):
            before = disk.written()
            self.assertIs(disk.power(many), None)
            for number in range(many):
                disk.write(number, many)
            for _ in range(2):
                kept = disk.cells()
                with self.assertRaises(Stopped):
                    disk.write(0, "never")
                with self.assertRaises(Stopped):
                    disk.write("new", "never")
                self.assertEqual(disk.cells(), kept)
                self.assertEqual(disk.written(), before + many)
        disk.power(None)
        for number in range(50):
            disk.write(number, number)
        self.assertEqual(disk.written(), 54)

    def test_power_counts_from_now_on(self):
        disk = Disk()
        disk.write(0, 0)
        disk.power(2)
        disk.write(1, 0)
        disk.power(2)
        disk.write(2, 0)
        disk.write(3, 0)
        with self.assertRaises(Stopped):
            disk.write(4, 0)
        disk.power(10 ** 29)
        disk.write(4, 0)
        self.assertEqual(disk.written(), 5)

    def test_what_is_no_number_of_writes(self):
        disk = Disk()
        disk.power(1)
        for thing in strange() + [-10 ** 29]:
            if thing is None or (type(thing) is int and thing >= 0):
                continue
            with self.assertRaises(NoNumber):
                disk.power(thing)
        disk.write(0, 0)
        with self.assertRaises(Stopped):
            disk.write(1, 1)
        self.assertEqual((disk.cells(), disk.written()), ({0: 0}, 1))


if __name__ == "__main__":
    unittest.main()
