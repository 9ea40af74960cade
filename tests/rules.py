"""The six rules of point 69 about the memory, checked word by word."""

WHITE, GRAY, BLACK = 0, 1, 2
COPYING = ("moving", "updating")


class Block:
    """A block as its words tell it."""

    def __init__(self, heap, address):
        form, state = heap.words[address:address + 2]
        self.address = address
        self.shape, self.length = form % 64, form // 64
        self.size = self.length + 2
        self.colour, self.remembered, self.forward = state % 4, state // 4 % 2, state // 8
        self.payload = heap.words[address + 2:address + 2 + self.length]

    def targets(self):
        """The addresses to which the payload refers."""
        return targets(self.payload)


def targets(words):
    """The addresses to which words refer."""
    return [word // 2 for word in words if word % 2 == 0 and word != 0]


def region(heap, low, high):
    """The blocks of a region, which lie one behind another without gaps."""
    found = []
    while low < high:
        found.append(Block(heap, low))
        low += found[-1].size
    assert low == high, "the last block does not end at the end of its region"
    return found


def resolved(heap, address):
    """Where the block that is known by an address lies."""
    if heap.phase in COPYING and heap.base <= address < heap.top:
        return heap.words[address + 1] // 8 or address
    return address


def check_memory(heap, rows):
    """Raises an error if one of the rules does not hold."""
    young = region(heap, 1, heap.young_top)
    this = region(heap, heap.base, heap.top)
    other = region(heap, heap.other_base, heap.other_top)
    check_regions(heap, young, this, other)
    check_references(heap, rows, young, this, other)
    check_remembered(heap, young, this, other)
    check_colours(heap, young, this, other)
    check_forwards(heap, young, this, other)
    if heap.phase == "updating":
        for block in other:
            if block.address < heap.cursor:
                assert not [at for at in block.targets() if heap.base <= at < heap.base + heap.capacity], "rule 6"


def check_regions(heap, young, this, other):
    """Rule 1, and what the attributes say of the regions."""
    words, capacity = heap.words, heap.capacity
    first = heap.nursery + 1
    assert len(words) == first + 2 * capacity
    assert sorted((heap.base, heap.other_base)) == sorted((first, first + capacity)), "the spaces"
    assert heap.young_top <= first and heap.top <= heap.base + capacity
    assert heap.other_top <= heap.other_base + capacity
    for low, high in ((heap.young_top, first), (heap.top, heap.base + capacity),
                      (heap.other_top, heap.other_base + capacity), (0, 1)):
        assert not any(words[low:high]), "rule 1: words that are not 0"
    copying = heap.phase in COPYING
    pending = [block.size for block in this if block.colour == BLACK and block.address >= heap.cursor]
    assert heap.pending == (sum(pending) if heap.phase == "moving" else 0), "pending"
    old = heap.pending + sum(block.size for block in other) if copying else sum(block.size for block in this)
    assert heap.used() == sum(block.size for block in young) + old <= capacity, "rule 1: used"
    assert copying or heap.other_top == heap.other_base
    at_blocks = {"moving": this, "updating": other}.get(heap.phase, [])
    ends = {"moving": heap.top, "updating": heap.other_top}.get(heap.phase, 0)
    assert heap.cursor in [block.address for block in at_blocks] + [ends], "cursor"


def check_references(heap, rows, young, this, other):
    """Rule 2."""
    copying = heap.phase in COPYING
    begins = {block.address: block for block in young + this + other}
    sources = [block.payload for block in young + other]
    sources += [block.payload for block in this if not copying or block.colour == BLACK and block.forward == 0]
    for words in list(rows) + sources:
        for address in targets(words):
            at = resolved(heap, address)
            assert at in begins, "rule 2: no beginning of a block"
            lost = copying and heap.base <= at < heap.top and begins[at].colour == WHITE
            assert not lost, "rule 2: a white block"


def check_remembered(heap, young, this, other):
    """Rule 3."""
    copying = heap.phase in COPYING
    for block in this + other:
        if any(1 <= at <= heap.nursery for at in block.targets()):
            left = copying and block in this and (block.colour == WHITE or block.forward)
            assert block.remembered or left, "rule 3: not remembered"
    marked = [block.address for block in young + this + other if block.remembered]
    assert sorted(resolved(heap, at) for at in heap.remembered) == sorted(marked), "rule 3: the list"
    assert not any(block.remembered for block in young)


def check_colours(heap, young, this, other):
    """Rule 4."""
    grays = [block.address for block in young + this + other if block.colour == GRAY]
    assert sorted(heap.grays) == sorted(grays), "rule 4: grays"
    if heap.phase != "marking":
        assert not grays, "rule 4: a gray block"
    else:
        colours = {block.address: block.colour for block in this}
        for block in this:
            if block.colour == BLACK:
                assert WHITE not in [colours.get(at) for at in block.targets()], "rule 4: black refers to white"
    white = young + other + (this if heap.phase == "idle" else [])
    assert all(block.colour == WHITE for block in white), "rule 4: not white"


def check_forwards(heap, young, this, other):
    """Rule 5."""
    left = [block for block in this if block.colour == BLACK and heap.phase in COPYING
            and (heap.phase == "updating" or block.address < heap.cursor)]
    copies = {block.address: block for block in other}
    forwards = [block.forward for block in left]
    assert all(at in copies for at in forwards), "rule 5: no block of the other space"
    assert forwards == sorted(set(forwards)), "rule 5: the order"
    for block in left:
        copy = copies[block.forward]
        assert (copy.shape, copy.length) == (block.shape, block.length), "not a copy"
    assert not any(block.forward for block in young + this + other if block not in left), "rule 5: others"
