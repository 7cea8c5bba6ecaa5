"""Operations, conditions and calls that the tests of judgements need."""

from blockmoves.conditions import All, Any, Below, Not, Same, Upto
from blockmoves.containers import Container
from blockmoves.forms import Form
from blockmoves.operations import Operation
from simulator import Halt, Simulation, call_parts, split_values

ROW = Container.read("array x n\nparameters n\npremise all()\nbegin n = n\ninvariant all()\ncase all()\n  x[0 .. n]")
# A row with two further fields.
MARKED = Container.read("""array x n
field f
field g
parameters n
premise all()
begin f = 0
begin g = 0
begin n = n
invariant all(f <= n, g <= n)
case all()
  x[0 .. n]""")
# Two arrays, of which the first one is shown in the reversed order.
PAIR = Container.read("""array left low
array right high
field used
parameters a b
premise all()
begin high = b
begin low = a
begin used = 0
invariant used <= low
case used < high
  left[0 .. used] reversed
  right[used .. high]
case all()
  left[0 .. used] reversed""")


def made(container, *lines, head="size k", premise="all()", view=(), results=()):
    """An operation with these lines of a body, and these pieces."""
    rows = ["operation some"] + (head.split("\n") if head else []) + [f"premise {premise}", "body"]
    rows += ["  " + line for line in lines] + ["view"] + ["  " + piece for piece in view]
    for name, *pieces in results:
        rows += [f"result {name}"] + ["  " + piece for piece in pieces]
    return Operation.read(container, "\n".join(rows))


def is_small(values, top=2000):
    return all(number < top for _, number in values)


def met_at(operation, values):
    """The places that the run of the allowed call with these values comes to."""
    fields, sizes = split_values(operation, values)
    parts = call_parts(operation, fields, sizes)
    if parts is None:
        return set()
    simulation = Simulation(operation, fields, parts[0], sizes, parts[1])
    try:
        simulation.body(operation.body)
    except Halt:
        pass
    return set(simulation.met)


def stop_at(operation, values, place, word):
    """The stop of the allowed call in which the copy at the place is one of this word, or None."""
    fields, sizes = split_values(operation, values)
    parts = call_parts(operation, fields, sizes)
    if parts is None:
        return None
    simulation = Simulation(operation, fields, parts[0], sizes, parts[1])

    def step(statement, own):
        getattr(Simulation, "do_" + (word if own == place else statement.WORD))(simulation, statement, own)

    for kind in ("copy", "up", "down", "apart"):
        setattr(simulation, "do_" + kind, step)
    try:
        simulation.body(operation.body)
    except Halt as halt:
        return halt.place, halt.kind
    return None


def varied(chance, operation):
    """The operation with its body changed a little, or None."""
    lines = str(operation).split("\n")
    begin, end = lines.index("body") + 1, lines.index("view")
    body = lines[begin:end]
    way = chance.choice(["swap", "leave", "double", "words", "words", "more", "more"])
    if way == "swap" and len(body) > 1:
        one, other = chance.sample(range(len(body)), 2)
        body[one], body[other] = body[other], body[one]
    elif way == "leave" and body:
        body.pop(chance.randrange(len(body)))
    elif way == "double":
        body = body + body
    elif way == "words":
        word = chance.choice(["copy", "up", "down", "apart"])
        for at, line in enumerate(body):
            first = line.split()[0]
            if first in ("copy", "up", "down", "apart"):
                body[at] = line.replace(first, word, 1)
    else:
        body.insert(0, chance.choice(["  reverse buf[0] (0)", "  let len = len", "  copy buf[0] buf[0] (cap)",
                                      "  resize buf (cap)"]))
    try:
        return Operation.read(operation.container, "\n".join(lines[:begin] + body + lines[end:]))
    except ValueError:
        return None


def random_condition(chance, symbols):
    def form():
        return Form(**{symbol: chance.choice([0, 0, 1, 1, 2, -1]) for symbol in symbols})

    def atom():
        return chance.choice([Below, Upto, Same])(form(), form())

    return chance.choice([atom(), Not(atom()), All(atom(), atom()), Any(atom(), atom()), Any(atom(), atom(), Not(atom()))])
