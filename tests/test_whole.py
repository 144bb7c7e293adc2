"""What point 2 promises, for every function and every method of the interface, by one example or more."""

import copy
import importlib
import unittest

from farhaul.bch.code import BchCode
from farhaul.bch.least import least_unseen, state_paper
from farhaul.bch.nearest import nearest as nearest_row
from farhaul.bch.recurrences import shortest
from farhaul.exchanges.peer import Peer
from farhaul.exchanges.station import Station
from farhaul.fields.field import Field
from farhaul.frames.finder import Finder
from farhaul.links.contents import content, core, payload
from farhaul.links.link import Receiver, Sender
from farhaul.links.payloads import read_payload
from farhaul.links.plans import Plan
from farhaul.lists.listing import list_near
from farhaul.lists.votes import elected, quorum
from farhaul.paths.follower import Follower
from farhaul.paths.mending import mend as mend_path
from farhaul.registers.least import free_paper, free_way, least_row, row_paper
from farhaul.registers.register import Register
from farhaul.registers.rings import ring
from farhaul.rootcodes.code import RootCode
from farhaul.tails.biting import biting_paper, least_biting, mend_biting
from farhaul.tails.late import LateFollower
from farhaul.tails.patterns import least_punctured, punctured_paper
from farhaul.weaving.delays import Delays, Undelays
from reference import fresh, spoil
from test_interface import CLASSES, FUNCTIONS

FIELD = Field(3, 11)
CODE = RootCode(FIELD, 7, 1, 5)
BCH = BchCode(FIELD, 7, 1, 3)
REGISTER = Register(2, [7, 5])
PLAN = Plan(RootCode(Field(8, 285), 24, 1, 4), 1, None, [1, 1, 1, 0, 0, 1, 0], 1)
SHORT = Plan(RootCode(Field(4, 19), 15, 1, 4), 1, REGISTER, [1, 1, 1, 0, 0, 1, 0], 1)
RECEIVED = [1, 2, 7, 0, 0, 0, 0]
ROW = [1, 1, 1, 0, None, 1, 0, 1, 0, 0]
BITING = [1, 1, 0, None, 1, 0]
VOTES = [(0, 1, 2), (0, 2, 1), (3, 7, 2), (5, 0, 1)]
RING = ring(Register(1, [3, 3]))
PAYLOAD = payload(SHORT, 9, [])


def examples():
    """For the name of each function its arguments, one tuple or several."""
    word = CODE.codeword([3, 5])
    votes_told, votes_cover = elected(CODE, VOTES)
    entries, cover = list_near(CODE, RECEIVED, [], 4, 3)
    return {
        "farhaul.fields.binary": {
            "degree": (9,), "times": (9, 5), "common": (9, 5), "divide": (9, 5), "is_irreducible": (11,),
            "least_irreducible": (5,),
        },
        "farhaul.polys.polys": {
            "trimmed": ([1, 2, 0],), "add": (FIELD, [1, 2], [3]), "times": (FIELD, [1, 2], [3]), "scaled": (FIELD, [1, 2], 1),
            "divide": (FIELD, [1, 2, 3], [4, 5]), "value": (FIELD, [1, 2], 3), "slope": ([1, 2, 3],),
        },
        "farhaul.polys.euclid": {"common": (FIELD, [1, 2], [1, 2]), "stopped": (FIELD, [1, 2, 3, 4], [5, 6, 7], 2)},
        "farhaul.polys.points": {
            "from_roots": (FIELD, [1, 2]), "roots": (FIELD, [0, 1, 1]), "interpolate": (FIELD, [(1, 2), (2, 3)]),
        },
        "farhaul.rootcodes.mending": {
            "mend": (CODE, word[:6] + [0], [6]), "check_correction": (CODE, word, [], []),
            "corrected": (CODE, word, [1], [(1, 5)]),
        },
        "farhaul.registers.rings": {
            "is_catastrophic": (REGISTER,), "ring": (Register(1, [3, 3]),), "check_ring": (Register(1, [3, 3]), RING),
        },
        "farhaul.registers.least": {
            "least_row": (REGISTER, 5), "row_paper": (REGISTER, 5),
            "check_row": (REGISTER, 5) + least_row(REGISTER, 5) + (row_paper(REGISTER, 5),), "free_way": (REGISTER,),
            "free_paper": (REGISTER,), "check_free": (REGISTER,) + free_way(REGISTER) + (free_paper(REGISTER),),
        },
        "farhaul.paths.mending": {
            "price": (REGISTER, ROW, [1, 0, 1]), "mend": (REGISTER, ROW), "margin": (REGISTER, ROW),
            "check_path": (REGISTER, ROW) + mend_path(REGISTER, ROW),
        },
        "farhaul.weaving.blocks": {
            "woven": (2, 3, [1, 2, 3, 4, 5, 6]), "unwoven": (2, 3, [1, 2, 3, 4, 5, 6]), "time_of": (2, 3, 4),
            "spread": (2, 3, 4),
        },
        "farhaul.weaving.delays": {"delay_spread": (2, 3, 4)},
        "farhaul.frames.marks": {
            "distance": ([1, 0], [1, 1]), "guard": ([1, 1, 0],), "false_places": ([1, 0, 1], 1), "least_mark": (5, 1),
        },
        "farhaul.frames.finder": {"line_of": ([1, 1, 0], [[1, 0], [0, 0]], [2, 0, 1])},
        "farhaul.links.contents": {
            "content": (PLAN, 3, [1, 2]), "read_content": (PLAN, content(PLAN, 3, [1, 2])),
            "core": (PLAN, content(PLAN, 3, [1, 2])), "payload": (PLAN, 3, [1, 2]),
        },
        "farhaul.links.payloads": {
            "received_lists": (PLAN, [None] * 9 + core(PLAN, content(PLAN, 3, [1, 2]))[9:]),
            "read_payload": (SHORT, PAYLOAD), "check_payload": (SHORT, PAYLOAD) + read_payload(SHORT, PAYLOAD),
        },
        "farhaul.bounds.bursts": {"burst_bound": (PLAN,), "breaking_burst": (PLAN,), "symbols_touched": (4, 5, 6)},
        "farhaul.bounds.turns": {
            "row_distance": (REGISTER, 5), "lightest_row": (REGISTER, 5), "turn_bound": (REGISTER, 5),
            "breaking_turns": (REGISTER, 5),
        },
        "farhaul.lists.bivariate": {
            "is_bivariate": (FIELD, [[1, 2], [3]]), "leading": ([[1, 2], [3]], 2), "weighted_degree": ([[1, 2], [3]], 2),
            "value_at": (FIELD, [[1, 2], [3]], 4, 5), "along": (FIELD, [[1, 2], [3]], []),
            "moved": (FIELD, [[1, 2], [3]], 0, 0), "multiplicity": (FIELD, [[1, 2], [3]], 4, 5),
        },
        "farhaul.lists.covers": {
            "terms_up_to": (2, 9), "degree_bound": (2, 9), "least_cover": (FIELD, 2, [(1, 2, 2), (3, 4, 1)]),
            "is_cover": (FIELD, [[0, 1]], [(0, 1, 1)]),
        },
        "farhaul.lists.curves": {"curves": (FIELD, [[], [1, 1], [1]], 3)},
        "farhaul.lists.forms": {
            "multipliers": (CODE,), "weight_of": (CODE,), "word_of": (CODE, [1, 2]), "form_of": (CODE, word),
        },
        "farhaul.lists.reaches": {"reach": (CODE, 1, 2), "limit": (CODE, 1), "enough": (CODE, 1, 2)},
        "farhaul.lists.votes": {
            "score": (CODE, VOTES, word), "quorum": (CODE, VOTES), "elected": (CODE, VOTES),
            "check_elected": (CODE, VOTES, quorum(CODE, VOTES) + 1, [won for won, _ in votes_told], votes_cover),
        },
        "farhaul.lists.listing": {
            "list_near": (CODE, RECEIVED, [], 4, 3), "check_list": (CODE, RECEIVED, [], 4, 3, entries, cover),
            "nearest": (CODE, RECEIVED, [1], 3),
        },
        "farhaul.bch.recurrences": {
            "makes": (FIELD, [1, 1], [1, 1, 1]), "shortest": (FIELD, [1, 2, 3, 4]),
            "check_shortest": (FIELD, [1, 2, 3, 4]) + shortest(FIELD, [1, 2, 3, 4]),
        },
        "farhaul.bch.minimal": {"conjugates": (FIELD, 2), "minimal": (FIELD, 2)},
        "farhaul.bch.mending": {
            "mend": (BCH, [1, 0, 0, 0, 0, 0, 0], [3]), "check_word": (BCH, [1] + [0] * 6, [], [0] * 7),
        },
        "farhaul.bch.seals": {
            "sealed": (11, [1, 0]), "is_sealed": (11, [1, 1, 0, 1]), "order": (11,), "unseen_bursts": (11, 7),
            "sees_odd": (11,),
        },
        "farhaul.bch.least": {
            "least_unseen": (11, 6), "state_paper": (11, 6), "profile": (11, 9),
            "check_unseen": (11, 6) + least_unseen(11, 6) + (state_paper(11, 6),),
        },
        "farhaul.bch.nearest": {
            "nearest": (11, [1, 0, None, 1, 1]), "margin": (11, [1, 0, None, 1, 1]),
            "check_nearest": (11, [1, 0, None, 1, 1]) + nearest_row(11, [1, 0, None, 1, 1]),
        },
        "farhaul.tails.patterns": {
            "kept_bits": (REGISTER, [3, 1], 5), "punctured": (REGISTER, [3, 3], [1, 0, None, 1]),
            "opened": (REGISTER, [3, 3], 2, [1, 0, None, 1]), "mend_punctured": (REGISTER, [3, 3], 3, ROW),
            "least_punctured": (REGISTER, [3, 1], 4), "punctured_paper": (REGISTER, [3, 1], 4),
            "check_punctured": (REGISTER, [3, 1], 4) + least_punctured(REGISTER, [3, 1], 4) + (
                punctured_paper(REGISTER, [3, 1], 4),),
            "punctured_bound": (REGISTER, [3, 1], 4), "breaking_punctured": (REGISTER, [3, 1], 4),
        },
        "farhaul.tails.biting": {
            "start_state": (REGISTER, [1, 0, 1]), "biting_row": (REGISTER, [1, 0, 1]), "mend_biting": (REGISTER, BITING),
            "biting_margin": (REGISTER, BITING), "check_biting": (REGISTER, BITING) + mend_biting(REGISTER, BITING),
            "least_biting": (REGISTER, 4), "biting_paper": (REGISTER, 4), "biting_bound": (REGISTER, 4),
            "breaking_biting": (REGISTER, 4),
            "check_least_biting": (REGISTER, 4) + least_biting(REGISTER, 4) + (biting_paper(REGISTER, 4),),
        },
        "farhaul.exchanges.packets": {
            "write_packet": ((3, [1, 2], 4, 5),), "read_packet": ([1] + [0] * 12 + [7, 8],),
        },
    }


def objects():
    """For the line of each class an object, and the arguments of its methods."""
    station, waiting = Station(PLAN, 4, 2), Peer(4, 2)
    station.offer([1])
    waiting.offer([2])
    waiting.receive((1, [5], 0, 0))
    finder = Finder([1, 1, 0], 0, 4)
    finder.feed([1, 1, 0, 1])
    late = LateFollower(REGISTER, 1)
    late.feed([1, 1, 0, 1, 1])
    follower = Follower(REGISTER)
    follower.feed([1, 1, 0, 1, 1])
    return {
        "Field": (FIELD, {"add": (1, 2), "times": (1, 2), "inverse": (2,), "power": (2, 3), "order": (2,), "log": (2,)}),
        "RootCode": (CODE, {"is_word": ([0] * 7,), "codeword": ([1, 2],), "message": ([0] * 7,), "word_on": ([0, 1, 2, 3, 5, 6],)}),
        "Register": (REGISTER, {"next_state": (1, 1), "out": (1, 1), "run": (1, [1, 0]), "ended_row": ([1, 0],)}),
        "Follower": (follower, {"feed": ([1, None, 0],), "told": (1,)}),
        "Delays": (Delays(2, 1, 0), {"feed": ([1, 2, 3],)}),
        "Undelays": (Undelays(2, 1, None), {"feed": ([1, 2, 3],)}),
        "Finder": (finder, {"feed": ([1, None, 0, 1, 1, 0, 1, 1, 1, 1],)}),
        "Plan": (PLAN, {}),
        "Sender": (Sender(PLAN, 3), {"send": ([1, 2],), "idle": (3,)}),
        "Receiver": (Receiver(SHORT), {"feed": (SHORT.mark + PAYLOAD,)}),
        "LateFollower": (late, {"feed": ([1, None, 0],), "rest": (1,)}),
        "Peer": (waiting, {"offer": ([1, 2],), "packets": (5,), "receive": ((0, [4], 0, 0),)}),
        "Station": (station, {"offer": ([1, 2],), "bits": (5,), "feed": ([0] * 5 + PLAN.mark + payload(
            PLAN, 3, [1] + [0] * 12 + [7]),)}),
        "BchCode": (BCH, {"is_word": ([0] * 7,), "codeword": ([1, 0, 1, 1],), "message": ([0] * 7,)}),
    }


def inside(thing):
    """All that is inside of a value or an object, as lists and dicts of plain values."""
    if isinstance(thing, (list, tuple)):
        return [inside(item) for item in thing]
    if isinstance(thing, dict):
        return {key: inside(item) for key, item in thing.items()}
    if hasattr(thing, "__dict__"):
        return inside(vars(thing))
    return thing


class TestWhole(unittest.TestCase):
    def test_functions(self):
        known = examples()
        for module, listed in FUNCTIONS.items():
            for line in listed:
                name = line.split("(")[0]
                args = known[module].pop(name)
                before = copy.deepcopy(inside(args))
                found = fresh(self, getattr(importlib.import_module(module), name), *args)
                self.assertEqual(inside(args), before, line)
                if name.startswith(("check", "is_", "sees", "makes")):
                    self.assertIsInstance(found, bool, line)
                if name.startswith("check"):
                    self.assertIs(found, True, line)
            self.assertEqual(known[module], {})

    def test_methods(self):
        for (module, line), methods in CLASSES.items():
            for method in methods:
                name = method.split("(")[0]
                thing, calls = objects()[line.split("(")[0]]
                other = objects()[line.split("(")[0]][0]
                args = copy.deepcopy(calls.get(name, ()))
                kept = copy.deepcopy(args)
                found = getattr(thing, name)(*args)
                self.assertEqual(args, kept, (line, name))
                told = copy.deepcopy(found)
                behind = copy.deepcopy(inside(thing))
                # Neither the result nor the arguments are part of the object.
                spoil(found)
                spoil(args)
                self.assertEqual(inside(thing), behind, (line, name))
                if not hasattr(told, "__dict__"):
                    self.assertEqual(getattr(other, name)(*kept), told, (line, name))

    def test_objects_copy_what_they_are_given(self):
        taps, mark, items = [7, 5], [1, 1, 1, 0, 0, 1, 0], [1, 1, 0]
        made = [Register(2, taps), Plan(PLAN.code, 1, None, mark, 1), Finder(items, 0, 4)]
        before = copy.deepcopy(inside(made))
        for given in (taps, mark, items):
            spoil(given)
        self.assertEqual(inside(made), before)

    def test_copies_share_nothing(self):
        for line, (thing, calls) in objects().items():
            if not hasattr(thing, "copy"):
                continue
            other = thing.copy()
            self.assertEqual(inside(other), inside(thing), line)
            before = copy.deepcopy(inside(thing))
            for name, args in calls.items():
                getattr(other, name)(*copy.deepcopy(args))
            self.assertEqual(inside(thing), before, line)
