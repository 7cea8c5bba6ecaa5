"""Two containers with some of their operations, as the document gives them."""

from blockmoves.containers import read_container
from blockmoves.operations import read_operation

_RING = """array buf cap
field head
field len
parameters cap
premise all()
begin cap = cap
begin head = 0
begin len = 0
invariant all(head <= cap, len <= cap)
case head + len <= cap
  buf[head .. head + len]
case all()
  buf[head .. cap]
  buf[0 .. -cap + head + len]"""

_RING_PUSH = """operation push
size k
input given k
premise k + len <= cap
body
  if head + k + len <= cap
    apart buf[head + len] given[0] (k)
  else
    if head + len <= cap
      apart buf[head + len] given[0] (cap - head - len)
      apart buf[0] given[cap - head - len] (-cap + head + k + len)
    else
      apart buf[-cap + head + len] given[0] (k)
    end
  end
  let len = k + len
view
  view[0 .. len]
  given[0 .. k]"""

_RING_POP = """operation pop
size k
output taken k
premise k <= len
body
  if head + k <= cap
    copy taken[0] buf[head] (k)
    let head = head + k
  else
    copy taken[0] buf[head] (cap - head)
    copy taken[cap - head] buf[0] (-cap + head + k)
    let head = -cap + head + k
  end
  let len = -k + len
view
  view[k .. len]
result taken
  view[0 .. k]"""

_RING_TURN = """operation turn
size k
premise all(head + len <= cap, k <= len)
body
  reverse buf[head] (k)
  reverse buf[head + k] (-k + len)
  reverse buf[head] (len)
view
  view[k .. len]
  view[0 .. k]"""

_STACK = """array buf cap
field len
parameters n
premise all()
begin cap = n
begin len = 0
invariant len <= cap
case all()
  buf[0 .. len]"""

_STACK_PUSH = """operation push
size k
input given k
premise all()
body
  if cap < k + len
    resize buf (2*k + 2*len)
  end
  copy buf[len] given[0] (k)
  let len = k + len
view
  view[0 .. len]
  given[0 .. k]"""

_STACK_DROP = """operation drop
size k
output out k
premise k <= len
body
  copy out[0] buf[0] (k)
  up buf[0] buf[k] (-k + len)
  let len = -k + len
view
  view[k .. len]
result out
  view[0 .. k]"""


def ring():
    """A ring buffer: a list that goes round in an array of a fixed length."""
    return read_container(_RING)


def ring_push():
    """Puts some elements behind those of a ring."""
    return read_operation(ring(), _RING_PUSH)


def ring_pop():
    """Takes the first elements out of a ring."""
    return read_operation(ring(), _RING_POP)


def ring_turn():
    """Takes the first elements of a ring behind the others."""
    return read_operation(ring(), _RING_TURN)


def stack():
    """A list at the beginning of an array that grows."""
    return read_container(_STACK)


def stack_push():
    """Puts some elements behind those of a stack, in a longer array if need be."""
    return read_operation(stack(), _STACK_PUSH)


def stack_drop():
    """Takes the first elements out of a stack."""
    return read_operation(stack(), _STACK_DROP)
