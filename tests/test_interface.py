"""The names and arguments of the interface, each in its own file."""

import importlib
import inspect
import unittest

FUNCTIONS = {
    "farhaul.fields.binary": (
        "degree(p)", "times(p, q)", "common(p, q)", "divide(p, q)", "is_irreducible(p)", "least_irreducible(m)",
    ),
    "farhaul.polys.polys": (
        "trimmed(coefficients)", "add(field, p, q)", "times(field, p, q)", "scaled(field, p, e)",
        "divide(field, p, q)", "value(field, p, e)", "slope(p)",
    ),
    "farhaul.polys.euclid": ("common(field, p, q)", "stopped(field, p, q, bound)"),
    "farhaul.polys.points": ("from_roots(field, roots)", "roots(field, p)", "interpolate(field, points)"),
    "farhaul.rootcodes.mending": (
        "mend(code, received, wiped)", "check_correction(code, received, wiped, pairs)",
        "corrected(code, received, wiped, pairs)",
    ),
    "farhaul.registers.least": (
        "least_row(shift_register, count)", "row_paper(shift_register, count)",
        "check_row(shift_register, count, weight, message, paper)", "free_way(shift_register)",
        "free_paper(shift_register)", "check_free(shift_register, weight, inputs, paper)",
    ),
    "farhaul.bch.recurrences": (
        "makes(field, recurrence, items)", "shortest(field, items)",
        "check_shortest(field, items, recurrence, paper)",
    ),
    "farhaul.bch.minimal": ("conjugates(field, e)", "minimal(field, e)"),
    "farhaul.bch.mending": ("mend(code, received, wiped)", "check_word(code, received, wiped, word)"),
}
CLASSES = {
    ("farhaul.fields.field", "Field(m, modulus)"): (
        "bits()", "modulus()", "size()", "add(e, f)", "times(e, f)", "inverse(e)", "power(e, k)", "order(e)",
        "log(e)", "root()",
    ),
    ("farhaul.rootcodes.code", "RootCode(field, n, first, checks)"): (
        "roots()", "is_word(symbols)", "codeword(message)", "message(word)", "word_on(places)",
    ),
    ("farhaul.registers.register", "Register(v, taps)"): (
        "memory()", "taps()", "next_state(state, bit)", "out(state, bit)", "run(state, bits)", "ended_row(message)",
    ),
    ("farhaul.bch.code", "BchCode(field, n, first, design)"): (
        "generator()", "checks()", "is_word(bits)", "codeword(message)", "message(word)",
    ),
}


def shown(name, call):
    """The name and the arguments of a function, without `self`."""
    parameters = [word for word in inspect.signature(call).parameters if word != "self"]
    return f"{name}({', '.join(parameters)})"


class TestInterface(unittest.TestCase):
    def test_functions(self):
        for module, listed in FUNCTIONS.items():
            for line in listed:
                name = line.split("(")[0]
                call = getattr(importlib.import_module(module), name)
                self.assertEqual(shown(name, call), line)
                self.assertEqual(call.__module__, module)

    def test_classes(self):
        for (module, line), methods in CLASSES.items():
            name = line.split("(")[0]
            kind = getattr(importlib.import_module(module), name)
            self.assertEqual(shown(name, kind), line)
            self.assertEqual(kind.__module__, module)
            for method in methods:
                self.assertEqual(shown(method.split("(")[0], vars(kind)[method.split("(")[0]]), method)
