"""Nets as texts: reading and writing."""

from levelgifts.faults import BadText
from levelgifts.nets import Net
from levelgifts.shape import DIGITS, LETTERS, LONGEST_NAME, all_places

LONGEST_TEXT = 600
MOST_BRACKETS = 40

# The kinds of tokens that may stand where a node begins.
NODE_BEGINS = ("name", "mark", "(")
# The kinds behind a `)` that closes a bracket with one node.
FULL_MARK = ("mark",)


class Reader:
    """What is known of a text behind one of its tokens. A node is told by the offset of its first token."""

    def __init__(self):
        self.wanted = NODE_BEGINS
        self.brackets = []
        self.mixing = None
        self.links = []
        self.named = []
        self.marks = {}

    def fault_of(self, kind, word):
        """The word of the first fault of the token that comes next, or None."""
        if kind == "sign":
            return "sign"
        if kind == "name" and len(word) > LONGEST_NAME:
            return "name"
        if kind == "mark" and not _is_mark(word):
            return "mark"
        if kind not in self.wanted:
            return "order"
        if kind == "(" and len(self.brackets) == MOST_BRACKETS:
            return "deep"
        return None

    def take(self, kind, word, at):
        """Goes behind a token without fault."""
        if kind == "(":
            self.brackets.append((at, []))
            self.wanted = NODE_BEGINS
        elif kind == ",":
            self.wanted = NODE_BEGINS
        elif kind == ")":
            self._close_bracket()
        elif kind == ";":
            self.wanted = ()
        elif kind == "name":
            self.named.append((at, word))
            self._finish_node(at)
        elif self.wanted == FULL_MARK:
            self._take_mark(word, ("full", at, self.mixing))
        else:
            self._take_mark(word, ("mention", at, at))

    def _take_mark(self, word, standing):
        """Keeps how, where and for which node the mark stands, and finishes that node."""
        self.marks.setdefault(word, []).append(standing)
        self._finish_node(standing[2])

    def _close_bracket(self):
        """Links the node of the last open bracket with the nodes in it."""
        node, inside = self.brackets.pop()
        self.links.extend([(node, child) for child in inside])
        if len(inside) == 2:
            self._finish_node(node)
        else:
            self.mixing = node
            self.wanted = FULL_MARK

    def _finish_node(self, node):
        """Puts the node into the last open bracket, if there is one."""
        if not self.brackets:
            self.wanted = (";",)
            return
        inside = self.brackets[-1][1]
        inside.append(node)
        self.wanted = (",", ")") if len(inside) == 1 else (")",)


def _is_mark(word):
    """Whether the token, a `#` and digits, is a mark from 1 to 99 without a leading zero."""
    return 2 <= len(word) <= 3 and word[1] != "0"


def _end_of_run(text, at, signs):
    """The least offset, not before the given one, at which the text has none of the signs."""
    while at < len(text) and text[at] in signs:
        at += 1
    return at


def _token_at(text, at):
    """The kind of the token that begins at the offset, and the offset behind it."""
    sign = text[at]
    if sign in LETTERS:
        return "name", _end_of_run(text, at, LETTERS + DIGITS)
    if sign == "#":
        return "mark", _end_of_run(text, at + 1, DIGITS)
    if sign in "(),; ":
        return sign, at + 1
    return "sign", at + 1


def _tokens(text):
    """The tokens as triples (kind, word, offset). A character that begins none is one of the kind "sign"."""
    tokens = []
    at = 0
    while at < len(text):
        kind, behind = _token_at(text, at)
        if kind != " ":
            tokens.append((kind, text[at:behind], at))
        at = behind
    return tokens


def _read_tokens(text):
    """The reader behind the last token. Raises BadText for all but the marks."""
    if len(text) > LONGEST_TEXT:
        raise BadText("long", LONGEST_TEXT)
    reader = Reader()
    for kind, word, at in _tokens(text):
        fault = reader.fault_of(kind, word)
        if fault is not None:
            raise BadText(fault, at)
        reader.take(kind, word, at)
    if reader.wanted:
        raise BadText("end", len(text))
    return reader


def _check_marks(marks):
    """Raises BadText for the first mark that does not stand once in full and once as a mention."""
    for word in marks:
        standings = marks[word]
        if sorted([form for form, at, node in standings]) != ["full", "mention"]:
            raise BadText("marks", standings[0][1])


def _first_nodes(marks):
    """For each node that stands for a mixing, the lesser one of the two nodes of that mixing."""
    firsts = {}
    for word in marks:
        nodes = [node for form, at, node in marks[word]]
        for node in nodes:
            firsts[node] = min(nodes)
    return firsts


def read_newick(text):
    """The net that the text tells."""
    reader = _read_tokens(text)
    _check_marks(reader.marks)
    firsts = _first_nodes(reader.marks)
    links = [(firsts.get(mother, mother), firsts.get(child, child)) for mother, child in reader.links]
    places = {node: place for place, node in enumerate(all_places(links, reader.named))}
    arrows = [(places[mother], places[child]) for mother, child in links]
    leaves = [(places[node], name) for node, name in reader.named]
    return Net(sorted(arrows), sorted(leaves))


def write_newick(net):
    """The text of the net."""
    return _written(net, net.root, {}) + ";"


def _written(net, place, marks):
    """The text from the place on. The marks of the mixings that are reached come into the dict."""
    if place in marks:
        return f"#{marks[place]}"
    kind = net.kind_of(place)
    if kind == "leaf":
        return net.name_of(place)
    children = net.children(place)
    if kind == "mixing":
        # The mark is given ahead of the child, since marks count in the order in which mixings are reached.
        mark = len(marks) + 1
        marks[place] = mark
        below = _written(net, children[0], marks)
        return f"({below})#{mark}"
    # The order is that of the moment ahead of both children, whatever the first one marks.
    first, second = _in_written_order(children, marks)
    left = _written(net, first, marks)
    right = _written(net, second, marks)
    return f"({left},{right})"


def _in_written_order(children, marks):
    """The children of a split as they are written: the mixings that have marks first."""
    marked = sorted([(marks[child], child) for child in children if child in marks])
    return [child for mark, child in marked] + [child for child in children if child not in marks]
