"""A plain reader of bundles, written from points 38 and 39 of the document: a row at a time, in the order it asks for.

It draws on nothing of the program. Unlike the program it never writes the text again, but looks at each row's form and
at the rows ahead of it.
"""

import re
from fractions import Fraction
from math import gcd

from helpers import WORDS, is_shade
from plain_hall import PlainHall, crowded

NUMBER = "(0|[1-9][0-9]*)"
WORD = "(" + "|".join(WORDS) + ")"
HEAD = re.compile(f"hall {NUMBER} {NUMBER} {NUMBER}")
FORMS = {
    "paint": re.compile(f"(paint) {NUMBER} {NUMBER} {NUMBER} {WORD}"),
    "adjust": re.compile(f"(adjust) {NUMBER} {NUMBER} {NUMBER} {NUMBER} {NUMBER}"),
    "group": re.compile(f"(group) {NUMBER} {NUMBER} {NUMBER} {WORD} (through|alone)"),
    "cell": re.compile(f"(cell) {NUMBER} {NUMBER} {NUMBER}/{NUMBER} {NUMBER}/{NUMBER}"),
    "mask": re.compile(f"(mask) {NUMBER} {NUMBER} {NUMBER}"),
}


class NotOne(Exception):
    """The text is no bundle."""


def ask(holds):
    if not holds:
        raise NotOne


class Reader:
    def __init__(self, wide, high, following):
        ask(1 <= wide <= 12 and 1 <= high <= 12 and following >= 1)
        self.plain = PlainHall(wide, high)
        self.plain.following = following
        self.open = [0]
        self.number = None
        self.last = None

    def layer(self, kind, number, into, strength, *more):
        plain = self.plain
        number, into, strength = int(number), int(into), int(strength)
        ask(1 <= number < plain.following and number not in plain.layers and strength <= 16)
        ask(into in self.open)
        while self.open[-1] != into:
            self.open.pop()
        layer = {"kind": kind, "strength": strength, "mask": {}, "cells": {}, "keys": {}}
        if kind == "adjust":
            gain, lift = map(int, more)
            ask(gain + lift <= 16)
            layer.update(gain=gain, lift=lift)
        else:
            layer["word"] = more[0]
        plain.rows[into].append(number)
        if kind == "group":
            layer["through"] = more[1] == "through"
            plain.rows[number] = []
            self.open.append(number)
        ask(not crowded(plain.rows))
        plain.layers[number] = layer
        self.number, self.last = number, None

    def goes_on(self, sheet, x, y):
        """The rows of a layer go by y, then x, the cells first."""
        ask(self.number is not None and self.plain.is_cell(x, y))
        place = (("cells", "mask").index(sheet), y, x)
        ask(self.last is None or self.last < place)
        self.last = place

    def cell(self, x, y, *fractions):
        x, y, s, under, u, beneath = map(int, (x, y) + fractions)
        self.goes_on("cells", x, y)
        ask(under > 0 and beneath > 0 and gcd(s, under) == 1 and gcd(u, beneath) == 1)
        source = (Fraction(s, under), Fraction(u, beneath))
        ask(self.plain.layers[self.number]["kind"] == "paint" and is_shade(source) and source[1] > 0)
        self.plain.put(self.number, "cells", (x, y), source)

    def mask(self, x, y, m):
        x, y, m = int(x), int(y), int(m)
        self.goes_on("mask", x, y)
        ask(m <= 15)
        self.plain.put(self.number, "mask", (x, y), m)

    def row(self, row):
        form = FORMS.get(row.partition(" ")[0])
        found = form and form.fullmatch(row)
        ask(found)
        kind, *more = found.groups()
        if kind in ("cell", "mask"):
            getattr(self, kind)(*more)
        else:
            self.layer(kind, *more)


def plain_read(text):
    """The plain table of the hall whose bundle a text is, or None."""
    if type(text) is not str or not text.endswith("\n"):
        return None
    head, *rows = text[:-1].split("\n")
    try:
        found = HEAD.fullmatch(head)
        ask(found)
        reader = Reader(*map(int, found.groups()))
        for row in rows:
            reader.row(row)
    except NotOne:
        return None
    reader.plain.last_rules = reader.plain.rules()
    return reader.plain
