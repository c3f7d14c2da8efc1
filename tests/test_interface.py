"""The interface: each name with its arguments, and each class with its own methods."""

import importlib
import inspect
import unittest

FUNCTIONS = {
    "names": "code_of(name) name_of(code) read_path(text) written_path(path)",
    "things": "is_leaf(one) is_thing(one) is_view(one) thing_at(view,path) paths_of(view) room_of(thing) depth_of(thing)",
    "deeds": "is_deed(one) done(view,deed) all_done(view,deeds)",
    "viewtexts": "told_view(view) read_view(text)",
    "tally": "tally_of(view)",
    "blocks": "is_block(content) kind_of(content) links(content) height_of(many)",
    "sums": "sum_of(spot,content) cell_of(spot,content) is_right(spot,cell)",
    "steps": "groups_of(steps) do_steps(disk,steps) cut_steps(disk,steps,group,kept)",
    "trees": "is_good(blocks,place,kind) leaf_places(blocks,place) thing_of(blocks,place) come_to(blocks,places)",
    "making": "made(stock,thing)",
    "changing": "changed(stock,place,deed)",
    "counts": "counts_of(blocks,roots,places) hung(blocks,counts,place) let_go(blocks,counts,place)",
    "walk": "disk_paper(blocks,roots)",
    "diskcheck": "disk_holds(paper,blocks,roots,counts,once)",
    "heads": "root_content(generation,once,rows) ledger_content(generation,counts) read_root(content) read_ledger(content,places)",
    "opening": "begin(disk,once) newest(disk)",
    "power": "after_cut(disk,steps,group,kept)",
    "room": "frees(blocks,roots,chosen) room_paper(blocks,roots,chosen)",
    "roomcheck": "room_holds(paper,blocks,roots,counts,chosen)",
    "mend": "spots_in_use(disk) mended(disk) cells_of(disk)",
    "mendcheck": "mend_holds(paper,ahead,behind,spots)",
    "lostpaths": "lost_paths(shelf)",
    "between": "told_between(first,second) between(blocks,first,second)",
    "sent": "is_sent(one) sent_of(first,second) written_deed(deed) written_sent(sent) read_deed(text) read_sent(text)",
    "sentcheck": "sent_holds(sent,first,second)",
    "laying": "lay(shelf,name,sent)",
    "words": "read_line(line)",
}
OF_PLAIN = (
    "house(name,bound) do(name,deeds) snap(name,snap) back(name,snap) clone(snap,name,bound) drop(name) rebound(name,bound) view(name) "
    "thing(name,path) entries()"
)
CLASSES = {
    ("plainshelf", "PlainShelf()"): OF_PLAIN,
    ("disk", "Disk(places)"): "look(copy,spot) read(spot) write(copy,spot,content) rot(copy,spot,cell) cell(copy,spot) twin()",
    ("stock", "Stock(blocks,places,used,once)"): "place_for(content) new() content(place) keep(place)",
    ("shelf", "Shelf(disk)"): OF_PLAIN + (
        " steps() generation() roots() counts() blocks() once() lost() free() alone(name) hold(name,path) let_hold(place) held_thing(place)"
    ),
    ("holder", "Holder(shelf)"): "opened(name,path) leaves(number) closed(number)",
    ("desk", "Desk(places,once)"): "say(line)",
}


def told_call(name, call):
    """The name and the arguments of a function, a method or a class, as above."""
    names = [each for each in inspect.signature(call).parameters if each != "self"]
    return f"{name}({','.join(names)})"


class InterfaceTest(unittest.TestCase):

    def test_functions(self):
        for module, calls in FUNCTIONS.items():
            found = importlib.import_module("snapshelf." + module)
            for call in calls.split():
                name = call.partition("(")[0]
                self.assertEqual(told_call(name, getattr(found, name)), call, module)

    def test_classes(self):
        for (module, made), calls in CLASSES.items():
            name = made.partition("(")[0]
            found = getattr(importlib.import_module("snapshelf." + module), name)
            self.assertEqual(told_call(name, found), made)
            for call in calls.split():
                method = call.partition("(")[0]
                # Each one stands in the class itself.
                self.assertEqual(told_call(method, vars(found)[method]), call, name)


if __name__ == "__main__":
    unittest.main()
