import unittest

from slotpages import disk, errors, judging, notes, plays, shelf, spread, walk

KINDS = ("BadDisk", "NoPage", "BadPage", "BadCount", "Stopped", "BadRow", "NoRow", "Full", "BadText")


class TestErrors(unittest.TestCase):

    def test_each_is_a_page_error_and_a_value_error(self):
        self.assertEqual(errors.PageError.__bases__, (ValueError,))
        for kind in KINDS:
            self.assertEqual(getattr(errors, kind).__bases__, (errors.PageError,), kind)

    def test_what_the_interface_lists_is_defined_where_it_is_listed(self):
        for kind in KINDS + ("PageError",):
            self.assertEqual(getattr(errors, kind).__module__, "slotpages.errors")
        for module, names in ((judging, "judge lost"), (spread, "fewest held apart"), (notes, "written read"),
                              (plays, "played written_steps read_steps")):
            for name in names.split():
                self.assertEqual(getattr(module, name).__module__, module.__name__)
        for module, name, methods in ((disk, "Disk", "pages writes page write arm again"),
                                      (shelf, "Shelf", "put get names tidy change drop parts room"),
                                      (walk, "Walk", "step"), (plays, "Play", "do sheets")):
            kind = getattr(module, name)
            self.assertEqual(kind.__module__, module.__name__)
            for method in methods.split():
                self.assertIn(method, vars(kind))

    def test_bad_text_has_its_line(self):
        self.assertEqual(errors.BadText(3).line, 3)
        self.assertIn("3", str(errors.BadText(3)))
