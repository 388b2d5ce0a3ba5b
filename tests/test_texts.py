import random
import re
import unittest

from feedcolumns.errors import Unreadable
from feedcolumns.readings import read_form, read_sheet
from feedcolumns.sheets import Sheet
from feedcolumns.texts import show_form, show_sheet
from helpers import Case, common_degree, great_form, random_form, random_sheets, shortest_ring

POSITIVE = "[1-9][0-9]{0,39}"
COEFFICIENT = f"-?{POSITIVE}"
BACK = f"(?:0|{POSITIVE})"
INTEGER = f"(?:0|{COEFFICIENT})"
SHEET = re.compile(f"[a-z]+(?:; [a-z] =(?: {COEFFICIENT}[a-z]{BACK})*)+")
TUPLE = re.compile(f"({COEFFICIENT})([a-z])({BACK})")
FORM = re.compile(f"{INTEGER}(?: {INTEGER})* / {INTEGER}(?: {INTEGER})*")
SIGNS = " ;=/-+_.0123456789abstuzAS"


def sheet_with(text):
    """The inputs and columns with a text, None if none have it."""
    if not SHEET.fullmatch(text):
        return None
    inputs, *parts = text.split("; ")
    columns = [(part[0], [(int(coefficient), name, int(back)) for coefficient, name, back in TUPLE.findall(part)])
               for part in parts]
    names = list(inputs) + [name for name, _ in columns]
    known = all(name in names for _, formula in columns for _, name, _ in formula)
    if len(names) > len(set(names)) or not known or shortest_ring(columns):
        return None
    return inputs, columns


def form_with(text):
    """The form with a text, None if none has it."""
    if not FORM.fullmatch(text):
        return None
    top, bottom = [[int(word) for word in part.split()] for part in text.split("/")]
    if top == [0]:
        return ([], [1]) if bottom == [1] else None
    if top[-1] == 0 or bottom[-1] == 0 or bottom[0] != 1 or common_degree(top, bottom) > 0:
        return None
    return top, bottom


def spoilt(chance, text):
    """A text with one or two signs left out, put in or exchanged, or with words exchanged."""
    for _ in range(chance.randint(1, 2)):
        at = chance.randint(0, len(text))
        kind = chance.randint(0, 4)
        if kind == 0:
            text = text[:at] + text[at + 1:]
        elif kind == 1:
            text = text[:at] + chance.choice(SIGNS) + text[at:]
        elif kind == 2:
            text = text[:at] + chance.choice(SIGNS) + text[at + 1:]
        else:
            words = text.split(" ")
            one, other = chance.randrange(len(words)), chance.randrange(len(words))
            words[one], words[other] = words[other], words[one]
            text = " ".join(words)
    return text


class TextCase(Case):
    """Texts that are read as what another way of reading finds, and shown again."""

    def wanted(self, text):
        """What a text is that of, None if there is nothing."""

    def read(self, text):
        raise NotImplementedError

    def show(self, found):
        raise NotImplementedError

    def check(self, text):
        """Check what is read; tell whether that is nothing."""
        wanted = self.wanted(text)
        with self.subTest(text=text):
            if wanted is None:
                self.raises(Unreadable, text, self.read, text)
            else:
                found = self.read(text)
                self.assertIs(type(found), type(wanted))
                self.assertEqual(found, wanted)
                self.assertEqual(self.show(found), text)
        return wanted is None

    def check_each_sign(self, text):
        """Leave out, put in and exchange each sign."""
        self.readable(text)
        for at in range(len(text) + 1):
            self.check(text[:at] + text[at + 1:])
            for sign in SIGNS:
                self.check(text[:at] + sign + text[at:])
                self.check(text[:at] + sign + text[at + 1:])

    def check_spoilt(self, chance, texts):
        found = {}
        for text in texts:
            for _ in range(8):
                found[self.check(spoilt(chance, text))] = True
        self.assertEqual(sorted(found), [False, True])

    def unreadable(self, *texts):
        for text in texts:
            with self.subTest(text=text):
                self.assertIs(self.check(text), True)

    def readable(self, *texts):
        for text in texts:
            with self.subTest(text=text):
                self.assertIs(self.check(text), False)


class SheetTextTest(TextCase):
    def wanted(self, text):
        found = sheet_with(text)
        return None if found is None else Sheet(*found)

    def read(self, text):
        return read_sheet(text)

    def show(self, found):
        return show_sheet(found)

    def test_shown(self):
        for inputs, columns, text in [
                ("a", [("z", [])], "a; z ="), ("cab", [("s", [(9, "b", 4)])], "cab; s = 9b4"),
                ("a", [("s", [(-1, "s", 1), (10, "a", 0), (-1, "s", 1)]), ("t", [(2, "s", 0)])],
                 "a; s = -1s1 10a0 -1s1; t = 2s0"),
                ("a", [("t", [(-10 ** 30, "a", 12)]), ("s", []), ("u", [])], f"a; t = {-10 ** 30}a12; s =; u =")]:
            self.assertEqual(show_sheet(Sheet(inputs, columns)), text)
            self.assertEqual(show_sheet(sheet=Sheet(inputs, columns)), text)
            self.assertEqual(read_sheet(text=text), Sheet(inputs, columns))

    def test_what_is_shown_is_read_back(self):
        for inputs, columns in random_sheets(141, 100):
            sheet = Sheet(inputs, columns)
            text = show_sheet(sheet)
            self.assertEqual(sheet_with(text), (inputs, columns))
            self.assertEqual(read_sheet(text), sheet)
            self.assertEqual(read_sheet(text).formula_of(columns[0][0]), columns[0][1])
            self.assertEqual(sheet, Sheet(inputs, columns))

    def test_spoilt_texts(self):
        self.check_spoilt(random.Random(142), [
            show_sheet(Sheet(inputs, columns)) for inputs, columns in random_sheets(143, 600, most_columns=3, most_tuples=2)])

    def test_each_sign_left_out_put_in_or_exchanged(self):
        self.check_each_sign("ab; s = 1s1 -20a0; z =; t = 3z0")

    def test_spaces_and_other_signs(self):
        self.unreadable(
            "", " ", ";", "; ", "a", "a;", "a; ", "a; s", "a; s=", "a; =", "a;s =", "a; s = ", "a; s =  1a0", "a; s = 1a0 ",
            " a; s =", "a ; s =", "a; s =;", "a; s =; ", "a; s =;z =", "a;  s =", "a; s  =", "a; s =1a0", "a; s = 1 a0",
            "a; s = 1a 0", "a; s = 1a0\n", "a; s = 1a0; ; t =", "a, s =", "a; s = = 1a0", "a; s = 1a0 = 1a0", "a; s : 1a0",
            "a; s = 1a0;; t =", "a; s = 1a0 2a", "a; s = a0", "a; s = 1a", "a; s = a", "a; s = 1", "a; s = 10", "a; s = -",
            "a; s = -a0", "a; s = +1a0", "a; s = 1a+0", "a; s = --1a0", "a; s = 1-a0", "a; s = 1a0a", "a; s = 1aa0",
            "a; s = 1a0s", "a; s = 1.0a0", "a; s = 1_0a0", "a; s = 1a1_0", "a; s = 1e3a0", "a; s = (1a0)", "a; s = 1a0,")

    def test_integers(self):
        self.readable("a; s = 1a0", "a; s = -1a10", "a; s = 10a0", f"a; s = {'9' * 40}a0", f"a; s = -{'9' * 40}a0",
                      f"a; s = 1a{'9' * 40}", f"a; s = 1s{'1' + '0' * 39} {'1' * 40}a0")
        self.unreadable(
            "a; s = 01a0", "a; s = -01a0", "a; s = 1a00", "a; s = 1a01", "a; s = 00a0", "a; s = 1a-0", "a; s = -0a0",
            "a; s = 0a0", "a; s = 1a0 0a1", "a; s = 1a-1", f"a; s = {'1' * 41}a0", f"a; s = -{'1' * 41}a0",
            f"a; s = 1a{'1' * 41}", f"a; s = {'0' * 40}1a0", f"a; s = 1a{'0' * 40}1", f"a; s = {'7' * 1900}a0")
        self.assertEqual(read_sheet(f"a; s = -{'9' * 40}a0").formula_of("s"), [(1 - 10 ** 40, "a", 0)])

    def test_digits_of_other_scripts(self):
        # somewhat beyond the bounds: signs that Python takes for digits
        for digit in ["\u0661", "\u00b2", "\uff11"]:
            self.unreadable(f"a; s = {digit}a0", f"a; s = 1a{digit}", f"a; s = 1{digit}a0")

    def test_no_inputs_and_no_columns(self):
        self.unreadable("; s =", "; s = 1s1", "ab", "a; ", "", "s =")
        # the sheets are there, but none has these texts
        self.assertEqual(show_sheet(Sheet("", [("s", [])])), "; s =")
        self.assertEqual(show_sheet(Sheet("a", [])), "a")

    def test_wrong_names_and_unknown_ones(self):
        self.unreadable("A; s =", "aa; s =", "a; S =", "a; a =", "a; s =; s =", "a; st =", "a1; s =", "a b; s =",
                        "a; s = 1x0", "a; s = 1A0", "a; s = 1S1", "a; s = 1t1", "ab; s = 1c0; t =", "a; 1 =")

    def test_rings(self):
        self.unreadable("a; s = 1s0", "a; s = 1t0; t = 1s0", "a; s = 1a0 -1s0", "a; s = 1s0 -1s0")
        self.readable("a; s = 1s1", "a; s = 1t0; t = 1s1", "a; t = 1s1; s = 1t0")

    def test_many_columns_and_a_long_text(self):
        text = "ab; " + "; ".join(f"{name} = 1a0 -2b3" for name in "cdefghijklmnopqrstuvwxyz")
        self.readable(text)
        self.readable("a; s =" + " 12a3" * 390)
        self.unreadable("a; s =" + " 12a3" * 390 + " ")


class FormTextTest(TextCase):
    def wanted(self, text):
        return form_with(text)

    def read(self, text):
        return read_form(text)

    def show(self, found):
        self.check_is_form(found)
        return show_form(found)

    def test_shown(self):
        for form, text in [(([1, 1, 1], [1, -1]), "1 1 1 / 1 -1"), (([], [1]), "0 / 1"), (([0, 2], [1]), "0 2 / 1"),
                           (([-10, 0, 3], [1, 0, 25]), "-10 0 3 / 1 0 25"), (([10 ** 30], [1, -10 ** 30]),
                                                                            f"{10 ** 30} / 1 {-10 ** 30}")]:
            self.assertEqual(show_form(form), text)
            self.assertEqual(show_form(form=form), text)
            self.assertEqual(read_form(text=text), form)

    def test_what_is_shown_is_read_back(self):
        chance = random.Random(144)
        for form in [random_form(chance) for _ in range(200)] + [great_form(chance), ([], [1])]:
            text = show_form(form)
            self.assertEqual(form_with(text), form)
            self.assertEqual(read_form(text), form)

    def test_spoilt_texts(self):
        chance = random.Random(145)
        self.check_spoilt(chance, [show_form(random_form(chance, 2)) for _ in range(600)])

    def test_each_sign_left_out_put_in_or_exchanged(self):
        for text in ["1 -20 1 / 1 0 -3", "0 / 1"]:
            self.check_each_sign(text)

    def test_spaces_and_other_signs(self):
        self.unreadable(
            "", " ", "/", " / ", "1", "1 /", "1 / ", "/ 1", " / 1", "1/1", "1 /1", "1/ 1", " 1 / 1", "1 / 1 ", "1  / 1",
            "1 /  1", "1  2 / 1", "1 / 1  2", "1 / 1 / 1", "1 // 1", "1 / 1\n", "a / 1", "1 / a", "1, 2 / 1", "1 / 1;",
            "+1 / 1", "1 / +1", "--1 / 1", "- 1 / 1", "1- / 1", "1.0 / 1", "1_0 / 1", "- / 1", "1 / -")

    def test_integers(self):
        self.readable("-1 / 1", "10 / 1", "0 0 1 / 1", "1 / 1 0 0 2", f"{'9' * 40} / 1", f"-{'9' * 40} / 1 -{'1' * 40}")
        self.unreadable("01 / 1", "-0 / 1", "00 / 1", "1 -0 1 / 1", "1 / 01", "1 / 1 -0 1", "-01 / 1", "00 1 / 1",
                        f"{'1' * 41} / 1", f"-{'1' * 41} / 1", f"1 / 1 {'1' * 41}", f"{'0' * 40}1 / 1")

    def test_digits_of_other_scripts(self):
        for digit in ["\u0661", "\u00b2", "\uff11"]:
            self.unreadable(f"{digit} / 1", f"1 / {digit}", f"1{digit} / 1")

    def test_a_0_at_the_end(self):
        self.unreadable("1 0 / 1", "0 0 / 1", "1 / 1 0", "0 / 1 0", "1 2 0 0 / 1", "1 / 1 1 0 0", "0 1 0 / 1")

    def test_bottoms_that_do_not_begin_with_1(self):
        self.unreadable("1 / -1", "1 / 2", "1 / 0", "1 / 0 1", "2 / 2", "1 / -1 1", "3 / 3 1", "0 / 0", "0 / 2", "0 / -1",
                        "1 / 10", "-1 / -1")

    def test_forms_that_are_not_in_least_terms(self):
        self.unreadable("1 1 / 1 1", "1 0 -1 / 1 -1", "2 2 / 1 1", "0 / 1 1", "0 / 1 -1", "0 1 1 / 1 0 -1", "-1 1 / 1 -1",
                        "1 -1 / 1 -2 1", "6 5 1 / 1 3 2 1 3 1 0 0")
        self.readable("2 2 / 1", "2 4 / 1 2 2", "2 / 1 2", "1 2 / 1 1", "2 2 / 1 -1")

    def test_long_texts(self):
        self.readable("1 " * 900 + "1 / 1", "0 " * 100 + "1 / 1" + " 0" * 100 + " 7")
        self.unreadable("1 " * 100 + "1 / 1" + " 1" * 201)

    def test_new_lists(self):
        for text in ["0 / 1", "1 2 / 1 3"]:
            self.check_new(read_form, text)
        for form in [([], [1]), ([1, 2], [1, 3])]:
            self.check_new(show_form, form)


if __name__ == "__main__":
    unittest.main()
