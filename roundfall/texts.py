"""Runs and numbers as texts, each written in one way alone."""

from roundfall.errors import NoText
from roundfall.masks import hands_in, mask_of
from roundfall.runs import is_run

FIGURES = "0123456789"
MOST_FIGURES = 60


def show_fall(fall):
    hand = fall[0]
    at = fall[1]
    reached = "".join([str(other) for other in hands_in(fall[2])])
    return f"{hand}@{at}>{reached}"


def show_run(run):
    numbers = [str(number) for number in run[0]]
    return " ".join(numbers + ["/"] + [show_fall(fall) for fall in run[1]])


def are_figures(text):
    return all([sign in FIGURES for sign in text])


def read_number(text):
    figures = text[1:] if text.startswith("-") else text
    if not 1 <= len(figures) <= MOST_FIGURES or not are_figures(figures):
        raise NoText("this text writes no number")
    number = int(text)
    # A 0 ahead, or - ahead of 0, is lost in the number.
    if str(number) != text:
        raise NoText("a number is not written so")
    return number


def is_fall_text(word):
    if len(word) < 4 or word[1] != "@" or word[3] != ">":
        return False
    return are_figures(word[0] + word[2] + word[4:])


def read_fall(word):
    if not is_fall_text(word):
        raise NoText("this text writes no fall")
    return (int(word[0]), int(word[2]), mask_of([int(sign) for sign in word[4:]]))


def read_run(text):
    words = text.split(" ")
    if "/" not in words:
        raise NoText("a run is not written without /")
    middle = words.index("/")
    numbers = [read_number(word) for word in words[:middle]]
    falls = [read_fall(word) for word in words[middle + 1:]]
    run = (tuple(numbers), tuple(falls))
    # Figures that don't rise, or are there twice, are lost in the mask.
    if not is_run(run) or show_run(run) != text:
        raise NoText("this text writes no run")
    return run
