"""A stock of blocks that gives places for contents."""

from snapshelf.errors import Full
from snapshelf.trees import block_at, come_to


class Stock:
    """Blocks in memory, how many places there are, which may not be used, and whether blocks are kept once."""

    def __init__(self, blocks, places, used, once):
        self.memory = {place: blocks[place] for place in blocks}
        self.places = places
        self.used = {place: True for place in used}
        self.single = once
        self.fresh = {}
        self.known = {}
        for place in sorted(blocks):
            self.known.setdefault(blocks[place], place)

    def place_for(self, content):
        """A place at which a block with that content is from now on; Full."""
        if self.single and content in self.known:
            return self.known[content]
        place = self.unused_place()
        self.memory[place] = content
        self.fresh[place] = True
        self.known[content] = place
        return place

    def unused_place(self):
        """The first place that may be used and has no block, or Full."""
        for place in range(1, self.places + 1):
            if place not in self.used and place not in self.memory:
                return place
        raise Full()

    def new(self):
        """What came new: contents by their places."""
        return {place: self.memory[place] for place in self.fresh}

    def content(self, place):
        """The content at the place, or Lost."""
        return block_at(self.memory, place)

    def keep(self, place):
        """Let go what came new and isn't come to from the place."""
        reached = {each: True for each in come_to(self.memory, [place])}
        for each in list(self.fresh):
            if each not in reached:
                self.forget(each)

    def forget(self, place):
        """Let go what came new at the place."""
        # A content that is known elsewhere never came new where blocks are kept once.
        self.known.pop(self.memory[place], None)
        del self.memory[place]
        del self.fresh[place]
