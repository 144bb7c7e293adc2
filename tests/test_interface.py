"""The names and arguments of the interface, each in its own file."""

import importlib
import inspect
import unittest

FUNCTIONS = {
    "farhaul.fields.binary": (
        "degree(p)", "times(p, q)", "common(p, q)", "divide(p, q)", "is_irreducible(p)", "least_irreducible(m)",
    ),
    "farhaul.polys.polys": (
        "trimmed(coefficients)", "add(field, p, q)", "times(field, p, q)", "scaled(field, p, e)",
        "divide(field, p, q)", "value(field, p, e)", "slope(p)",
    ),
    "farhaul.polys.euclid": ("common(field, p, q)", "stopped(field, p, q, bound)"),
    "farhaul.polys.points": ("from_roots(field, roots)", "roots(field, p)", "interpolate(field, points)"),
    "farhaul.rootcodes.mending": (
        "mend(code, received, wiped)", "check_correction(code, received, wiped, pairs)",
        "corrected(code, received, wiped, pairs)",
    ),
    "farhaul.registers.rings": (
        "is_catastrophic(shift_register)", "ring(shift_register)", "check_ring(shift_register, steps)",
    ),
    "farhaul.registers.least": (
        "least_row(shift_register, count)", "row_paper(shift_register, count)",
        "check_row(shift_register, count, weight, message, paper)", "free_way(shift_register)",
        "free_paper(shift_register)", "check_free(shift_register, weight, inputs, paper)",
    ),
    "farhaul.paths.mending": (
        "price(shift_register, received, message)", "mend(shift_register, received)",
        "margin(shift_register, received)", "check_path(shift_register, received, message, price, paper)",
    ),
    "farhaul.weaving.blocks": (
        "woven(rows, columns, items)", "unwoven(rows, columns, items)", "time_of(rows, columns, index)",
        "spread(rows, columns, burst)",
    ),
    "farhaul.weaving.delays": ("delay_spread(lanes, step, burst)",),
    "farhaul.frames.marks": (
        "distance(one, two)", "guard(mark)", "false_places(mark, tolerance)", "least_mark(size, tolerance)",
    ),
    "farhaul.frames.finder": ("line_of(mark, payloads, idles)",),
    "farhaul.links.contents": (
        "content(plan, number, data)", "read_content(plan, bits)", "core(plan, bits)", "payload(plan, number, data)",
    ),
    "farhaul.links.payloads": (
        "received_lists(plan, core)", "read_payload(plan, received)",
        "check_payload(plan, received, number, data, paper)",
    ),
    "farhaul.bounds.bursts": ("burst_bound(plan)", "breaking_burst(plan)", "symbols_touched(m, first, bits)"),
    "farhaul.bounds.turns": (
        "row_distance(shift_register, size)", "lightest_row(shift_register, size)", "turn_bound(shift_register, size)",
        "breaking_turns(shift_register, size)",
    ),
    "farhaul.lists.bivariate": (
        "is_bivariate(field, rows)", "leading(rows, weight)", "weighted_degree(rows, weight)",
        "value_at(field, rows, e, f)", "along(field, rows, p)", "moved(field, rows, e, f)",
        "multiplicity(field, rows, e, f)",
    ),
    "farhaul.lists.covers": (
        "terms_up_to(weight, degree)", "degree_bound(weight, cost)", "least_cover(field, weight, vertices)",
        "is_cover(field, rows, vertices)",
    ),
    "farhaul.lists.curves": ("curves(field, rows, size)",),
    "farhaul.lists.forms": ("multipliers(code)", "weight_of(code)", "word_of(code, form)", "form_of(code, word)"),
    "farhaul.lists.reaches": ("reach(code, wiped, many)", "limit(code, wiped)", "enough(code, wiped, distance)"),
    "farhaul.lists.votes": (
        "score(code, votes, word)", "quorum(code, votes)", "elected(code, votes)",
        "check_elected(code, votes, least, words, cover)",
    ),
    "farhaul.lists.listing": (
        "list_near(code, received, wiped, distance, many)",
        "check_list(code, received, wiped, distance, many, entries, cover)", "nearest(code, received, wiped, many)",
    ),
    "farhaul.bch.recurrences": (
        "makes(field, recurrence, items)", "shortest(field, items)",
        "check_shortest(field, items, recurrence, paper)",
    ),
    "farhaul.bch.minimal": ("conjugates(field, e)", "minimal(field, e)"),
    "farhaul.bch.mending": ("mend(code, received, wiped)", "check_word(code, received, wiped, word)"),
    "farhaul.bch.seals": (
        "sealed(seal, message)", "is_sealed(seal, row)", "order(seal)", "unseen_bursts(seal, extent)",
        "sees_odd(seal)",
    ),
    "farhaul.bch.least": (
        "least_unseen(seal, size)", "state_paper(seal, size)", "check_unseen(seal, size, weight, pattern, paper)",
        "profile(seal, most)",
    ),
    "farhaul.bch.nearest": (
        "nearest(seal, received)", "margin(seal, received)", "check_nearest(seal, received, row, claim, paper)",
    ),
    "farhaul.tails.patterns": (
        "kept_bits(shift_register, pattern, steps)", "punctured(shift_register, pattern, row)",
        "opened(shift_register, pattern, steps, sent)", "mend_punctured(shift_register, pattern, count, received)",
        "least_punctured(shift_register, pattern, count)", "punctured_paper(shift_register, pattern, count)",
        "check_punctured(shift_register, pattern, count, weight, message, paper)",
        "punctured_bound(shift_register, pattern, count)", "breaking_punctured(shift_register, pattern, count)",
    ),
    "farhaul.tails.biting": (
        "start_state(shift_register, message)", "biting_row(shift_register, message)",
        "mend_biting(shift_register, received)", "biting_margin(shift_register, received)",
        "check_biting(shift_register, received, message, price, paper)", "least_biting(shift_register, count)",
        "biting_paper(shift_register, count)", "biting_bound(shift_register, count)",
        "breaking_biting(shift_register, count)",
        "check_least_biting(shift_register, count, weight, message, paper)",
    ),
    "farhaul.exchanges.packets": ("write_packet(packet)", "read_packet(data)"),
}
CLASSES = {
    ("farhaul.fields.field", "Field(m, modulus)"): (
        "bits()", "modulus()", "size()", "add(e, f)", "times(e, f)", "inverse(e)", "power(e, k)", "order(e)",
        "log(e)", "root()",
    ),
    ("farhaul.rootcodes.code", "RootCode(field, n, first, checks)"): (
        "roots()", "is_word(symbols)", "codeword(message)", "message(word)", "word_on(places)",
    ),
    ("farhaul.registers.register", "Register(v, taps)"): (
        "memory()", "taps()", "next_state(state, bit)", "out(state, bit)", "run(state, bits)", "ended_row(message)",
    ),
    ("farhaul.paths.follower", "Follower(shift_register)"): (
        "feed(part)", "given()", "turns()", "waiting()", "prices()", "told(state)", "copy()",
    ),
    ("farhaul.weaving.delays", "Delays(lanes, step, fill)"): ("feed(items)", "copy()"),
    ("farhaul.weaving.delays", "Undelays(lanes, step, fill)"): ("feed(items)", "copy()"),
    ("farhaul.frames.finder", "Finder(mark, tolerance, size)"): ("feed(bits)", "taken()", "within()", "copy()"),
    ("farhaul.links.plans", "Plan(code, depth, shift_register, mark, tolerance)"): (
        "room()", "most_bytes()", "core_bits()", "payload_bits()",
    ),
    ("farhaul.links.link", "Sender(plan, number)"): ("send(data)", "idle(count)", "next_number()"),
    ("farhaul.links.link", "Receiver(plan)"): ("feed(bits)", "taken()", "copy()"),
    ("farhaul.tails.late", "LateFollower(shift_register, delay)"): (
        "feed(part)", "given()", "guesses()", "turns()", "waiting()", "best()", "rest(state)", "copy()",
    ),
    ("farhaul.exchanges.peer", "Peer(window, wait)"): (
        "offer(data)", "packets(now)", "receive(packet)", "base_number()", "next_number()", "open_numbers()", "copy()",
    ),
    ("farhaul.exchanges.station", "Station(plan, window, wait)"): ("offer(data)", "bits(now)", "feed(bits)", "peer()"),
    ("farhaul.bch.code", "BchCode(field, n, first, design)"): (
        "generator()", "checks()", "is_word(bits)", "codeword(message)", "message(word)",
    ),
}


def shown(name, call):
    """The name and the arguments of a function, without `self`."""
    parameters = [word for word in inspect.signature(call).parameters if word != "self"]
    return f"{name}({', '.join(parameters)})"


class TestInterface(unittest.TestCase):
    def test_functions(self):
        for module, listed in FUNCTIONS.items():
            for line in listed:
                name = line.split("(")[0]
                call = getattr(importlib.import_module(module), name)
                self.assertEqual(shown(name, call), line)
                self.assertEqual(call.__module__, module)

    def test_classes(self):
        for (module, line), methods in CLASSES.items():
            name = line.split("(")[0]
            kind = getattr(importlib.import_module(module), name)
            self.assertEqual(shown(name, kind), line)
            self.assertEqual(kind.__module__, module)
            for method in methods:
                self.assertEqual(shown(method.split("(")[0], vars(kind)[method.split("(")[0]]), method)
