"""Plans of facts that are put together from the ways of conditions, step by step.

A *plan* is a list of steps, and a step a list of ways, one of which is taken.
A table has the present form of each symbol, and lengths the present length of
each array.
"""

from blockmoves.conditions import All, Upto
from blockmoves.forms import Form, form_of, put_in


def own_table(symbols):
    """The table in which each symbol has itself as its form."""
    return {symbol: form_of({symbol: 1}) for symbol in symbols}


def ways_in(condition, truth, table):
    """The true or false ways of the condition, with the forms of the table in the place of the symbols."""
    return [_put_in_way(way, table) for way in condition.listing(truth)]


def not_below_zero(forms):
    """The way that says that none of the forms is below 0."""
    return tuple([(form, False) for form in forms])


def stretch_condition(first, last, length):
    """The condition that a stretch or part lies in a list or array of this length."""
    return All(Upto(Form(), first), Upto(first, last), Upto(last, length))


def stretches_in(stretches, table):
    """The stretches with the forms of the table in the place of the symbols."""
    return [(array, put_in(first, table), put_in(last, table), turned) for array, first, last, turned in stretches]


def case_plan(cases, chosen, table, lengths):
    """The plan for the case to be the first with a true condition, and for its stretches to lie in their arrays."""
    return chosen_plan(cases, chosen, table) + [
        stretch_condition(first, last, lengths[array]).listing(True)
        for array, first, last, _ in stretches_in(cases[chosen][1], table)]


def missing_plans(cases, table, lengths):
    """The plans for all the ways in which a view is missing."""
    plans = [[ways_in(condition, False, table) for condition, _ in cases]]
    for chosen, (_, stretches) in enumerate(cases):
        conditions = [stretch_condition(first, last, lengths[array])
                      for array, first, last, _ in stretches_in(stretches, table)]
        plans.extend([chosen_plan(cases, chosen, table) + plan for plan in failing_plans(conditions)])
    return plans


def failing_plans(conditions):
    """For each of the conditions the plan that it is the first one that fails."""
    return [[condition.listing(True) for condition in conditions[:at]] + [failing.listing(False)]
            for at, failing in enumerate(conditions)]


def chosen_plan(cases, chosen, table):
    earlier = [ways_in(condition, False, table) for condition, _ in cases[:chosen]]
    return earlier + [ways_in(cases[chosen][0], True, table)]


def _put_in_way(way, table):
    return tuple([(put_in(form, table), strict) for form, strict in way])
