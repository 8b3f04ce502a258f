"""Points 17 to 21 read by a descent through the text, to compare the reader with."""

import re

from samples import slow_fault


class Fault(Exception):
    """A fault of the text."""

    def __init__(self, word, at):
        Exception.__init__(self, word, at)
        self.told = (word, at)


class SlowReader:
    """Goes down through the tokens; `at` is the index of the next one."""

    def __init__(self, text):
        self.text = text
        spans = re.finditer(r"[a-z][a-z0-9]*|#[0-9]*| +|.|\n", text)
        self.tokens = [(span.group(), span.start()) for span in spans if not span.group().startswith(" ")]
        self.at = 0
        self.nodes, self.uses = [], []

    def next_token(self, wanted, *, deep=False):
        """The next token if it is wanted: "a" stands for a name, "#" for a mark."""
        if self.at == len(self.tokens):
            raise Fault("end", len(self.text))
        word, offset = self.tokens[self.at]
        self.at += 1
        kind = "a" if word[0].isalpha() and word[0].islower() else word[0]
        if kind not in "a#(),;":
            raise Fault("sign", offset)
        if kind == "a" and len(word) > 8:
            raise Fault("name", offset)
        if kind == "#" and not re.fullmatch(r"#[1-9][0-9]?", word):
            raise Fault("mark", offset)
        if kind not in wanted:
            raise Fault("order", offset)
        if kind == "(" and deep:
            raise Fault("deep", offset)
        return word, offset

    def node(self, around):
        """Reads one node within so many brackets and returns its number in `nodes`."""
        word, offset = self.next_token("a#(", deep=around == 40)
        if word[0] == "#":
            self.uses.append((offset, word, "mention", None))
            return word
        if word != "(":
            self.nodes.append((offset, word, []))
            return len(self.nodes) - 1
        children = [self.node(around + 1)]
        if self.next_token(",)")[0] == ",":
            children.append(self.node(around + 1))
            self.next_token(")")
            self.nodes.append((offset, None, children))
            return len(self.nodes) - 1
        mark, at = self.next_token("#")
        self.uses.append((at, mark, "full", offset))
        self.nodes.append((offset, mark, children))
        return mark

    def lists(self):
        """The two lists that the text gives."""
        if len(self.text) > 600:
            raise Fault("long", 600)
        self.node(0)
        self.next_token(";")
        if self.at < len(self.tokens):
            self.next_token("")
        self.check_marks()
        offsets = {}
        for number, (offset, word, children) in enumerate(self.nodes):
            key = word if word and word[0] == "#" else number
            offsets[key] = min([offset] + [at for at, mark, form, start in self.uses if mark == key])
        order = sorted(offsets, key=lambda key: offsets[key])
        arrows, leaves = [], []
        for number, (offset, word, children) in enumerate(self.nodes):
            key = word if word and word[0] == "#" else number
            arrows += [(order.index(key), order.index(child)) for child in children]
            if not children:
                leaves.append((order.index(key), word))
        return sorted(arrows), sorted(leaves)

    def check_marks(self):
        """Each mark stands once in full and once as a mention."""
        for offset, mark, form, start in sorted(self.uses, key=lambda use: use[0]):
            if sorted(use[2] for use in self.uses if use[1] == mark) != ["full", "mention"]:
                raise Fault("marks", offset)


def slow_read(text):
    """What reading the text gives: ("text", fault), ("net", fault) or the two lists."""
    try:
        arrows, leaves = SlowReader(text).lists()
    except Fault as fault:
        return ("text", fault.told)
    fault = slow_fault(arrows, leaves)
    return ("net", fault) if fault else (arrows, leaves)
