"""The answer to formulas that a text tells."""

from yesorno.answers import answer
from yesorno.choices import Choice
from yesorno.named import named, plain_names
from yesorno.understood import understood


def without_new_names(choice, formulas):
    names = plain_names(formulas)
    plain = dict([(name, choice.plain[name]) for name in choice.plain if name in names])
    return Choice(plain, choice.tables)


def asked(text, most=2000):
    formulas = understood(text)
    told = answer(named(formulas), most)
    if told[0] == "yes":
        return ("yes", without_new_names(told[1], formulas))
    return told
