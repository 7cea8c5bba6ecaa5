import pathlib
import re
import unittest

from blockmoves import catalog
from blockmoves.containers import Container, is_sound
from blockmoves.operations import Operation

RING = """array buf cap
field head
field len
parameters cap
premise all()
begin cap = cap
begin head = 0
begin len = 0
invariant all(head <= cap, len <= cap)
case head + len <= cap
  buf[head .. head + len]
case all()
  buf[head .. cap]
  buf[0 .. -cap + head + len]"""
RING_PUSH = """operation push
size k
input given k
premise k + len <= cap
body
  if head + k + len <= cap
    apart buf[head + len] given[0] (k)
  else
    if head + len <= cap
      apart buf[head + len] given[0] (cap - head - len)
      apart buf[0] given[cap - head - len] (-cap + head + k + len)
    else
      apart buf[-cap + head + len] given[0] (k)
    end
  end
  let len = k + len
view
  view[0 .. len]
  given[0 .. k]"""
RING_POP = """operation pop
size k
output taken k
premise k <= len
body
  if head + k <= cap
    copy taken[0] buf[head] (k)
    let head = head + k
  else
    copy taken[0] buf[head] (cap - head)
    copy taken[cap - head] buf[0] (-cap + head + k)
    let head = -cap + head + k
  end
  let len = -k + len
view
  view[k .. len]
result taken
  view[0 .. k]"""
RING_TURN = """operation turn
size k
premise all(head + len <= cap, k <= len)
body
  reverse buf[head] (k)
  reverse buf[head + k] (-k + len)
  reverse buf[head] (len)
view
  view[k .. len]
  view[0 .. k]"""
STACK = """array buf cap
field len
parameters n
premise all()
begin cap = n
begin len = 0
invariant len <= cap
case all()
  buf[0 .. len]"""
STACK_PUSH = """operation push
size k
input given k
premise all()
body
  if cap < k + len
    resize buf (2*k + 2*len)
  end
  copy buf[len] given[0] (k)
  let len = k + len
view
  view[0 .. len]
  given[0 .. k]"""
STACK_DROP = """operation drop
size k
output out k
premise k <= len
body
  copy out[0] buf[0] (k)
  up buf[0] buf[k] (-k + len)
  let len = -k + len
view
  view[k .. len]
result out
  view[0 .. k]"""
ALL = [("ring", None, RING), ("ring_push", RING, RING_PUSH), ("ring_pop", RING, RING_POP), ("ring_turn", RING, RING_TURN),
       ("stack", None, STACK), ("stack_push", STACK, STACK_PUSH), ("stack_drop", STACK, STACK_DROP)]


class CatalogTest(unittest.TestCase):
    def test_texts(self):
        for name, container, text in ALL:
            function = getattr(catalog, name)
            for _ in range(2):
                found = function()
                self.assertEqual(str(found), text)
                if container is None:
                    self.assertIs(type(found), Container)
                    self.assertEqual(found, Container.read(text))
                else:
                    self.assertIs(type(found), Operation)
                    self.assertEqual(found.container, Container.read(container))
                    self.assertEqual(found, Operation.read(Container.read(container), text))

    def test_sound(self):
        self.assertIs(is_sound(catalog.ring()), True)
        self.assertIs(is_sound(catalog.stack()), True)

    def test_document(self):
        document = pathlib.Path(__file__).resolve().parents[2] / "shared" / "DOC.md"
        if not document.exists():
            self.skipTest("the document is not there")
        blocks = re.findall(r"```\n(.*?)\n```", document.read_text(), re.DOTALL)
        for _, _, text in ALL:
            self.assertIn(text, blocks)


if __name__ == "__main__":
    unittest.main()
