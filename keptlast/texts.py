"""The texts of forms."""

from keptlast.errors import FormError, InvalidText
from keptlast.forms import Form
from keptlast.rules import Rule


def form_text(form):
    """The text of a form: a line for each field, and then one for each rule."""
    fields = [f"field {field}\n" for field in form.fields]
    return "".join([*fields, *[f"rule {name} {form[name].text()}\n" for name in form.names()]])


def read_form(text):
    """The form with this text; InvalidText with the wrong line."""
    if not isinstance(text, str):
        raise InvalidText(None)
    *lines, rest = text.split("\n")
    form = None
    for at, line in enumerate(lines):
        try:
            form = _with_line(form, line)
        except FormError:
            raise InvalidText(at + 1) from None
    if form is None or rest != "":
        raise InvalidText(len(lines) + 1)
    return form


def _with_line(form, line):
    """The form whose text has one line more than that of a form, or than the empty one; a FormError if there is none.

    Lines that begin the text of a form are themselves the text of one: its sets of rules stay sets of rules when others
    follow, with the private fields that they have.
    """
    fields = () if form is None else form.fields
    rules = {} if form is None else form.rules()
    word, _, rest = line.partition(" ")
    if word == "field" and len(rules) == 0:
        return Form([*fields, rest], {})
    name, _, told = rest.partition(" ")
    if word != "rule" or not all([earlier < name for earlier in rules]):
        raise InvalidText(None)
    return Form(fields, {**rules, name: Rule.read(told)})
