"""A desk: commands in words for a journal."""

from exactroom.errors import InvalidCommand
from exactroom.journal import Journal
from exactroom.shared import NO_OWNER, Shared
from exactroom.sizes import is_name, read_integer
from exactroom.texts import dump_shared

# What the words of a command behind its first one are: names or integers.
OPERATION_FORMS = {
    "request": ("name", "integer"), "release": ("name",), "resize": ("name", "integer"),
    "write": ("name", "integer", "integer"), "pin": ("name",), "unpin": ("name",), "reserve": ("name", "integer"),
    "withdraw": ("name", "integer"), "settle": (), "length": ("integer",),
}
QUERY_FORMS = {
    "undo": ("integer",), "largest": (), "free": (), "slack": ("integer",), "read": ("name", "integer"),
    "cells": ("name",), "where": ("name",), "who": ("integer",), "pins": ("integer",), "names": (), "text": (),
}


def form_of(words):
    """Return what the words behind the first one must be, or None if there is no such command."""
    if words[0] == "request" and len(words) == 4:
        return ("name", "integer", "name")
    return OPERATION_FORMS.get(words[0], QUERY_FORMS.get(words[0]))


def read_word(kind, word):
    """Return the name or the integer that the word is, or None."""
    if kind == "integer":
        return read_integer(word)
    return word if is_name(word) else None


def parsed(command):
    """Return the first word of a command and the list of the values of the others."""
    if not isinstance(command, str):
        raise InvalidCommand("no string")
    words = command.split(" ")
    form = form_of(words)
    if form is None or len(words) != 1 + len(form):
        raise InvalidCommand("no command")
    values = [read_word(kind, word) for kind, word in zip(form, words[1:])]
    if None in values:
        raise InvalidCommand("a wrong word")
    return words[0], values


def answer(shared, word, values):
    """Return the list of what a query is answered with."""
    if word == "largest":
        return [shared.largest()]
    if word == "free":
        return [shared.layout().free]
    if word == "slack":
        return [shared.slack(values[0])]
    if word == "read":
        return [shared.read(values[0], values[1])]
    if word == "cells":
        return [shared.cells(values[0])]
    if word == "where":
        return shared.addresses(values[0])
    if word == "who":
        return shared.owner_of(values[0]) or ["-"]
    if word == "pins":
        return shared.pins_in_the_way(values[0])
    return shared.names() if word == "names" else [dump_shared(shared)]


def executed(journal, command):
    """Perform a command, and return its result."""
    word, values = parsed(command)
    if word == "undo":
        return str(journal.undo(values[0]))
    if word in QUERY_FORMS:
        return " ".join([str(part) for part in answer(journal.shared(), word, values)])
    if word == "request" and len(values) == 2:
        values.append(NO_OWNER)
    journal.perform((word, *values))
    return "ok"


class Desk:
    """A journal that is led by commands."""

    def __init__(self, sizes, length):
        self.book = Journal(Shared(sizes, length))
        # Two tuples for each run.
        self.past = []

    def execute(self, command):
        """Perform a command, and return its result."""
        return executed(self.book, command)

    def run(self, commands):
        """Execute a list of commands, all of them or none, and return the list of the results."""
        if not isinstance(commands, list):
            raise InvalidCommand("no list of commands")
        self.past.append(("begin", len(commands)))
        trial = self.book.clone()
        results = []
        done = 0
        try:
            for command in commands:
                results.append(executed(trial, command))
                done += 1
            self.book = trial
        finally:
            self.past.append(("end", done))
        return results

    def history(self):
        """Return the history of the runs."""
        return list(self.past)

    def journal(self):
        """Return an independent copy of the journal."""
        return self.book.clone()
