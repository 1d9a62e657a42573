"""The desk: a sheet that is worked on by lines of text."""

from keptlast.amounts import Amount
from keptlast.errors import CommandFailed, FormError, InvalidLine, InvalidName, MissingError, StateError
from keptlast.exchange import sure_last
from keptlast.forms import Form
from keptlast.kinds import is_name
from keptlast.peels import bar_paper, plan_row
from keptlast.rules import Rule

# How many words a line has that begins with this one; the line of `stay` has two or more.
MANY_WORDS = {"set": 4, "rule": 4, "drop": 2, "undo": 1, "show": 2, "kept": 1, "plan": 1, "last": 1}


class Desk:
    """A sheet that performs lines, one after another."""

    def __init__(self, sheet):
        self._sheet = sheet.copy()
        self._done = ()

    def sheet(self):
        """A copy of the sheet."""
        return self._sheet.copy()

    def do(self, line):
        """Does what a line says, and returns the answer."""
        words = _words_of(line)
        if words[0] not in ("set", "rule", "drop", "undo"):
            return _answer(self._sheet, words)
        answer = _change(self._sheet, words)
        self._done = (*self._done, line)
        return answer

    def do_all(self, *lines):
        """Does what all lines say, or none of it, and returns the list of the answers."""
        sheet = self._sheet.copy()
        done = self._done
        answers = []
        for at, line in enumerate(lines):
            try:
                answers.append(self.do(line))
            except (FormError, MissingError, StateError) as error:
                self._sheet = sheet
                self._done = done
                raise CommandFailed(at) from error
        return answers

    def log(self):
        """The list of the lines that were done and that change something."""
        return list(self._done)


def _words_of(line):
    """The words of a line, the text of a rule being one of them; InvalidLine for any value that is no line."""
    if not isinstance(line, str) or "\n" in line:
        raise InvalidLine(line)
    words = line.split(" ", 3) if line.startswith("rule ") else line.split(" ")
    if "" in words or not _are_as_many(words):
        raise InvalidLine(line)
    if words[0] in ("set", "rule") and words[2] != "=":
        raise InvalidLine(line)
    return words


def _are_as_many(words):
    """Whether there are as many words as a line has that begins with the first of them."""
    if words[0] == "stay":
        return len(words) >= 2
    return words[0] in MANY_WORDS and len(words) == MANY_WORDS[words[0]]


def _change(sheet, words):
    """Does what the words of a line say that changes the sheet, and returns the answer."""
    if words[0] == "set":
        number = Amount.read(words[3])
        return _listed("out", sheet.edit(words[1], number))
    if words[0] == "undo":
        sheet.undo()
        return "undone"
    if words[0] == "rule":
        sheet.set_form(_with_rule(sheet.form, words[1], Rule.read(words[3])))
    else:
        sheet.set_form(sheet.form - words[1])
    return _listed("kept", sheet.kept)


def _with_rule(form, name, rule):
    """The form with one rule more, or with another one in its place."""
    if not is_name(name):
        raise InvalidName(name)
    return Form(form.fields, {**form.rules(), name: rule})


def _answer(sheet, words):
    """The answer to the words of a line that changes nothing."""
    if words[0] == "show":
        return str(sheet[words[1]])
    if words[0] == "kept":
        return _listed("kept", sheet.kept)
    if words[0] == "plan":
        steps = [f"{name} {field}" for name, field in plan_row(sheet.form, sheet.kept)]
        return ", ".join(steps) if len(steps) > 0 else "-"
    if words[0] == "last":
        return str(sure_last(sheet.form))
    names = bar_paper(sheet.form, words[1:])
    return "yes" if names is None else _listed("no", names)


def _listed(word, names):
    """A word and the names behind it, or a dash if there is none."""
    return " ".join([word, *names]) if len(names) > 0 else f"{word} -"
