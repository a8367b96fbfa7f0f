"""A desk: requests, a line each, and what is told for them at a Board."""

from hintring.board import Board
from hintring.books import last
from hintring.errors import BadLine, CanNot, NoDeed, NoPlace, NothingDone, TooMany, Unfit
from hintring.texts import book_text, log_text, world_text
from hintring.words import family_in, number_in, pairs_word, set_in, set_word

# For the first word of each request what its further words are.
WORDS = {
    "put": ("set", "set", "family"), "strike": ("set", "set", "family"), "copy": ("number", "number"),
    "send": ("number", "number"), "lose": ("number",), "wait": ("number",), "come": ("number", "number"),
    "undo": (), "redo": (), "read": ("set",), "miss": ("set",), "tell": ("set",), "answers": ("set",),
    "grace": ("set",), "letters": (), "cells": (), "tick": (), "moment": (), "book": (), "world": (), "log": ()}


def value_in(kind, word):
    """What this word is, as one of this kind; None if it is none."""
    if kind == "set":
        return set_in(word)
    if kind == "family":
        return family_in(word)
    return number_in(word)


def request_in(line):
    """A pair of the first word of a request and the list of its further values; None if the
    line is no request."""
    words = line.split(" ")
    word, rest = words[0], words[1:]
    if word not in WORDS or len(rest) != len(WORDS[word]):
        return None
    values = [value_in(kind, one) for kind, one in zip(WORDS[word], rest)]
    if None in values:
        return None
    return word, values


def is_request(thing):
    """Whether thing is a string that is a request."""
    return isinstance(thing, str) and request_in(thing) is not None


def reply(board, line):
    """Does what the line asks for at this Board, and returns what is told."""
    request = request_in(line)
    if request is None:
        raise BadLine(0)
    return reply_to(board, request)


def replies(many, life, text):
    """The list of what is told for each line of text, one behind another, at a new Board."""
    requests = []
    lines = text.split("\n") if text != "" else []
    for number, line in enumerate(lines):
        request = request_in(line)
        if request is None:
            raise BadLine(number)
        requests.append(request)
    board = Board(many, life)
    return [reply_to(board, request) for request in requests]


def reply_to(board, request):
    """What is told for a request, also where it is refused."""
    word, values = request
    try:
        return told_for(board, word, values)
    except NoPlace:
        return "refused NoPlace"
    except NoDeed:
        return "refused NoDeed"
    except NothingDone:
        return "refused NothingDone"
    except TooMany:
        return "refused TooMany"
    except Unfit:
        return "refused Unfit"
    except CanNot:
        return "refused CanNot"


def told_for(board, word, values):
    """What is told for a request that is not refused."""
    if word in ("put", "strike"):
        return str(written(board, word, values))
    if word in ("read", "miss", "tell", "answers", "grace"):
        return told_of_some(board, word, values[0])
    if len(values) > 0 or word in ("undo", "redo"):
        take_step(board, word, values)
        return "done"
    return told_of_board(board, word)


def written(board, word, values):
    """The VERSION that the Board writes for a request to put or to strike."""
    takers, homes, family = values
    if word == "put":
        return board.put(takers, homes, family)
    return board.strike(takers, homes, family)


def told_of_some(board, word, some):
    """What is told for a request that asks this LOT."""
    if word == "read":
        return str(board.read(some))
    if word == "miss":
        return set_word(board.may_miss(some))
    if word == "tell":
        return set_word(board.may_tell(some))
    if word == "answers":
        return set_word(board.answers(some))
    grace = board.least_grace(some)
    return "none" if grace is None else str(grace)


def take_step(board, word, values):
    """Does what a request asks for by which a step is taken that tells nothing, or taken back."""
    if word == "copy":
        board.copy(values[0], values[1])
    elif word == "send":
        board.send(values[0], values[1])
    elif word == "lose":
        board.lose(values[0])
    elif word == "wait":
        board.wait(values[0])
    elif word == "come":
        board.come(values[0], values[1])
    elif word == "undo":
        board.undo()
    else:
        board.redo()


def told_of_board(board, word):
    """What is told for a request of one word that changes nothing."""
    if word == "letters":
        return pairs_word(board.letters())
    if word == "cells":
        return " ".join([str(version) for version in board.cells()])
    if word == "tick":
        return str(board.tick())
    if word == "moment":
        return str(last(board.book()))
    if word == "book":
        return in_one_line(book_text(board.book()))
    if word == "world":
        return in_one_line(world_text(board.world()))
    return in_one_line(log_text(board.log()))


def in_one_line(text):
    """This text without its last line break, and without others; "-" if there is nothing."""
    if text == "":
        return "-"
    return text[:-1].replace("\n", "; ")
