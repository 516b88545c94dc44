"""The interface: each name stands in the module that lists it, with the told arguments."""

import importlib
import inspect
import unittest

INTERFACE = {
    "lengthstell.base.words": (
        "is_integer(value)", "is_name(value)", "are_names(value)", "is_lot(value)", "is_pair(value)",
        "is_space(value)",
    ),
    "lengthstell.base.rows": (
        "rank(rows)", "are_free(rows)", "kernel(rows, width)", "solution(rows, aims)", "cleared(row)",
        "determinant(table)", "is_square_sum(table)",
    ),
    "lengthstell.frame.frames": ("Frame(pins, rods=())",),
    "lengthstell.frame.cuts": (
        "pieces(frame)", "sides(frame, lot)", "is_cut_by(frame, lot)", "cuts(frame, size)",
    ),
    "lengthstell.place.placings": (
        "is_placing(frame, value, *, space=2)", "space_of(placing)", "squares(frame, placing)",
        "square_between(placing, one, other)", "are_alike(placing, other_placing)",
        "rod_rows(frame, placing)", "rank_at(frame, placing)", "is_firm_at(frame, placing)",
        "motions(frame, placing)", "is_motion(frame, placing, value)", "balances(frame, placing)",
        "is_balance(frame, placing, value)", "weight_table(frame, weights)",
        "mirrored(placing, one, other, side)", "shaken(placing, motion)",
    ),
    "lengthstell.count.counts": (
        "count_rank(frame, *, space=2)", "is_sparse(frame, *, space=2)", "is_firm(frame, *, space=2)",
        "pebbles(frame, *, space=2)", "is_pebbles(frame, value, *, space=2)", "crowd(frame, *, space=2)",
        "is_crowd(frame, value, *, space=2)",
    ),
    "lengthstell.count.blocks": (
        "blocks(frame, *, space=2)", "parting(frame, *, space=2)", "is_parting(frame, value, *, space=2)",
        "parting_sum(frame, lots, *, space=2)", "spare_rods(frame, *, space=2)",
        "bearing_lots(frame, *, space=2)", "circuit_with(frame, rod, *, space=2)",
        "is_circuit(frame, *, space=2)", "filled(frame, *, space=2)",
    ),
    "lengthstell.place.built": (
        "frame_built(row)", "build_row(frame)", "is_build_row(frame, value)", "free_placing(frame, *, space=2)",
        "is_free_placing(frame, value, *, space=2)",
    ),
    "lengthstell.told.rows": (
        "right_rows(frame, *, space=2)", "are_right_rows(frame, value, *, space=2)",
        "placing_of_rows(frame, rows, *, space=2)",
    ),
    "lengthstell.told.told": (
        "is_told(frame, *, space=2)", "told_paper(frame, *, space=2)", "is_told_paper(frame, value, *, space=2)",
    ),
    "lengthstell.told.steps": (
        "last_steps(frame)", "told_row(frame)", "is_told_row(frame, value)", "frame_of_row(row)",
        "split(frame, placing, weights, rod, pin, third)",
    ),
    "lengthstell.told.enough": (
        "needless(frame, *, space=2)", "told_lots(frame, offered, *, space=2)", "enough(frame, offered, *, space=2)",
        "lacking(frame, offered, *, space=2)", "are_families(frame, offered, value, *, space=2)",
        "left_out(frame, doubtful, *, space=2)", "breaking(frame, doubtful, *, space=2)", "meeting_lots(lots)",
    ),
    "lengthstell.join.sums": (
        "two_sum(one, other)", "halves(frame, lot)", "leaves(frame)", "summed_weights(one, first, other, second)",
    ),
    "lengthstell.join.papers": ("joined_paper(one, first, other, second)",),
    "lengthstell.small.changes": (
        "change_paper(frame, placing, change)", "is_change_paper(frame, placing, change, value)",
        "shows(frame, placing, rod)", "proportion(frame, placing, one, other)", "mistaken(frame, placing)",
        "answer_pace(frame, placing, driven, watched)",
    ),
    "lengthstell.ground.stands": (
        "Stand(frame, slides)", "stand_rank(stand)", "is_firm_stand(stand)", "is_just_firm(stand)",
        "spare_ties(stand)", "stand_parting(stand)", "is_stand_parting(stand, value)",
    ),
    "lengthstell.ground.places": (
        "is_place(stand, value)", "stand_rows(stand, place)", "rank_at_place(stand, place)",
        "is_firm_at_place(stand, place)", "stand_place(stand)",
    ),
    "lengthstell.ground.parts": (
        "heads(stand)", "are_heads(stand, value)", "may_bear(stand)", "parts(stand)", "part_of(stand, pin)",
        "part_of_tie(stand, tie)", "led_to(stand, lot)", "leading_to(stand, lot)", "is_closed(stand, value)",
        "closed_lots(stand)", "below(stand, lot)", "rest(stand, lot)",
    ),
    "lengthstell.drive.drivers": (
        "moved(stand, driven)", "still(stand, driven)", "is_still_lot(stand, driven, value)",
        "velocities(stand, place, paces)", "pair_pace(stand, place, paces, one, other)",
        "driven_paper(stand, driven)", "is_driven_paper(stand, driven, value)",
    ),
    "lengthstell.drive.wishes": (
        "movers(stand, pin)", "moved_lots(stand)", "drivers_of(stand, lot)", "barred_move(stand, lot)",
        "is_barred_move(stand, lot, value)", "fewest_drivers(stand, wished)",
        "are_fewest_drivers(stand, wished, value)", "exchanged(stand, tie, new)",
    ),
    "lengthstell.book.promises": (
        "is_promise(value)", "does_hold(frame, promise)", "paper_against(frame, promise)",
        "is_paper_against(frame, promise, value)",
    ),
    "lengthstell.book.desks": ("Desk(frame)", "Lot(desk)"),
    "lengthstell.text.formats": (
        "write_frame(frame)", "read_frame(text)", "write_stand(stand)", "read_stand(text)", "is_data(value)",
        "write_data(value)", "read_data(text)",
    ),
    "lengthstell.text.shell": ("Shell(frame)",),
}

METHODS = {
    "lengthstell.frame.frames.Frame": (
        "full(pins)", "neighbours(self, pin)", "with_rod(self, one, other)", "without_rod(self, one, other)",
        "with_pin(self, pin, *neighbours)", "coned(self, pin)", "without_pin(self, pin)", "part(self, lot)",
        "renamed(self, names)", "__or__(self, other)", "__contains__(self, x)", "__len__(self)", "__iter__(self)",
        "__eq__(self, other)", "__str__(self)",
    ),
    "lengthstell.ground.stands.Stand": (
        "held_at(frame, lot)", "with_tie(self, tie)", "without_tie(self, tie)", "__contains__(self, x)",
        "__len__(self)", "__iter__(self)", "__eq__(self, other)", "__str__(self)",
    ),
    "lengthstell.book.desks.Desk": (
        "do(self, deeds)", "would(self, deeds)", "promise(self, promise)", "drop(self, promise)", "undo(self, count=1)",
        "at(self, version)", "lot(self)", "__contains__(self, x)", "__len__(self)", "__iter__(self)",
        "__eq__(self, other)", "__str__(self)",
    ),
    "lengthstell.book.desks.Lot": (
        "add(self, deed)", "end(self)", "drop(self)", "__enter__(self)", "__exit__(self, kind, value, trace)",
    ),
    "lengthstell.text.shell.Shell": ("say(self, line)", "run(self, lines)", "__len__(self)", "__str__(self)"),
}

PROPERTIES = {
    "lengthstell.frame.frames.Frame": ("pins", "rods", "missing", "is_full"),
    "lengthstell.ground.stands.Stand": ("frame", "slides", "ties", "held", "inner"),
    "lengthstell.book.desks.Desk": ("frame", "promises", "version"),
    "lengthstell.book.desks.Lot": ("frame", "is_open"),
    "lengthstell.text.shell.Shell": ("frame", "promises", "version"),
}

CONSTANTS = {
    "lengthstell.base.words": {"MAX_DIGITS": 2000, "MAX_LETTERS": 4},
    "lengthstell.base.rows": {"MAX_ROWS": 60, "MAX_WIDTH": 28},
    "lengthstell.frame.frames": {"MAX_PINS": 8},
    "lengthstell.told.rows": {"MOST_MADE": 7},
    "lengthstell.told.enough": {"MOST_OFFERED": 5, "MOST_LOTS": 40, "MOST_MEMBERS": 10},
    "lengthstell.small.changes": {"MAX_DIGITS": 140},
    "lengthstell.book.promises": {"MAX_FEW": 28},
    "lengthstell.book.desks": {"MAX_PROMISES": 8, "MAX_DEEDS": 20},
    "lengthstell.text.formats": {"MAX_TEXT": 100000, "MAX_STRING": 40, "MAX_DEEP": 8},
    "lengthstell.text.shell": {"MAX_LINE": 2000, "MAX_LINES": 100},
}


class InterfaceTest(unittest.TestCase):

    def test_functions_and_classes(self):
        for name, listed in INTERFACE.items():
            module = importlib.import_module(name)
            for head in listed:
                word = head.partition("(")[0]
                found = getattr(module, word)
                self.assertEqual(found.__module__, name)
                self.assertEqual(f"{word}{inspect.signature(found)}", head)

    def test_methods(self):
        for name, listed in METHODS.items():
            module, _, word = name.rpartition(".")
            owner = getattr(importlib.import_module(module), word)
            for head in listed:
                word = head.partition("(")[0]
                self.assertIn(word, vars(owner))
                self.assertEqual(f"{word}{inspect.signature(getattr(owner, word))}", head)

    def test_properties(self):
        for name, listed in PROPERTIES.items():
            module, _, word = name.rpartition(".")
            owner = getattr(importlib.import_module(module), word)
            for word in listed:
                self.assertIsInstance(vars(owner)[word], property)

    def test_constants(self):
        for name, values in CONSTANTS.items():
            module = importlib.import_module(name)
            for word, value in values.items():
                self.assertEqual(getattr(module, word), value)


if __name__ == "__main__":
    unittest.main()
