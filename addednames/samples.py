"""The parts of a case for each label: the parts of a caller, by the keys of tables, and the place of an addition."""

# Ways lead from l to other libraries; the holder has the name a, or the spread.
LIBRARIES = {
    "none": (),
    "empty": (("l", (), (), ()),),
    "holder": (("l", (("a", 1),), (), ()),),
    "holder, other": (("l", (("a", 1),), (), ()), ("m", (), (), ())),
    "other, holder": (("l", (), (), ()), ("m", (("a", 1),), (), ())),
    "holder over other": (("l", (("a", 1),), ("m",), ()), ("m", (), (), ())),
    "other over holder": (("l", (), ("m",), ()), ("m", (("a", 1),), (), ())),
    "holder beside other": (("l", (), ("m", "n"), ()), ("m", (("a", 1),), (), ()), ("n", (), (), ())),
    "spread": (("l", (), (), (("k", "a", 1),)),),
    "spread of elder": (("l", (), (), (("g", "a", 1),)),),
    "spread over other": (("l", (), ("m",), (("k", "a", 1),)), ("m", (), (), ())),
}
CLASSES = {
    "none": (),
    "empty": (("k", None, ()),),
    "member": (("k", None, (("a", 1),)),),
    "elder": (("g", None, ()), ("k", "g", ())),
    "member of elder": (("g", None, (("a", 1),)), ("k", "g", ())),
}
IMPORTS = {
    "none": (),
    "all": (("all", "l"),),
    "all, all": (("all", "l"), ("all", "m")),
    "named": (("named", "l", "a", "a"),),
    "named m, all l": (("named", "m", "a", "a"), ("all", "l")),
    "named l, all m": (("named", "l", "a", "a"), ("all", "m")),
    "named, named": (("named", "l", "a", "a"), ("named", "m", "a", "a")),
    "whole": (("whole", "l"),),
}
# Own names, own classes, scopes and uses.
OTHERS = {
    "no use": ((), (), (), ()),
    "no use, unmarked": ((), (("h", "k", (("a", 2, False),)),), (), ()),
    "name": ((), (), (), (("name", None, "a"),)),
    "name, own": ((("a", 2),), (), (), (("name", None, "a"),)),
    "name in body": ((), (("h", "k", ()),), (("body", None, "h"),), (("name", 0, "a"),)),
    "name in body, own": ((("a", 2),), (("h", "k", ()),), (("body", None, "h"),), (("name", 0, "a"),)),
    "name in body, block": (
        (),
        (("h", "k", ()),),
        (("block", None, (("a", 2),)), ("body", 0, "h")),
        (("name", 1, "a"),),
    ),
    "member": ((), (), (), (("member", "k", "a"),)),
    "of": ((), (), (), (("of", "l", "a"),)),
}
# Each row: the keys of the libraries, classes, imports and other parts, and the place of the addition.
SAMPLES = {
    ("scope", "elder", ""): ("none", "empty", "none", "name in body, block", ("member", "k", "a")),
    ("elder", "elder", "nearer"): ("none", "member of elder", "none", "name in body", ("member", "k", "a")),
    ("own", "elder", ""): ("none", "empty", "none", "name in body, own", ("member", "k", "a")),
    ("named", "elder", ""): ("holder", "empty", "named", "name in body", ("member", "k", "a")),
    ("all", "elder", ""): ("holder", "empty", "all", "name in body", ("member", "k", "a")),
    ("elder", "all", ""): ("empty", "member", "all", "name in body", ("name", "l", "a")),
    ("own", "all", ""): ("empty", "none", "all", "name, own", ("name", "l", "a")),
    ("named", "all", ""): ("other, holder", "none", "named m, all l", "name", ("name", "l", "a")),
    ("all", "all", "earlier"): ("other, holder", "none", "all, all", "name", ("name", "l", "a")),
    ("all", "all", "later"): ("holder, other", "none", "all, all", "name", ("name", "m", "a")),
    ("all", "all", "ahead"): ("other over holder", "none", "all", "name", ("name", "l", "a")),
    ("all", "all", "beside"): ("holder beside other", "none", "all", "name", ("name", "n", "a")),
    ("all", "all", "behind"): ("holder over other", "none", "all", "name", ("name", "m", "a")),
    ("named", "named", "ahead"): ("other over holder", "none", "named", "name", ("name", "l", "a")),
    ("named", "named", "beside"): ("holder beside other", "none", "named", "name", ("name", "n", "a")),
    ("named", "named", "behind"): ("holder over other", "none", "named", "name", ("name", "m", "a")),
    ("of", "of", "ahead"): ("other over holder", "none", "whole", "of", ("name", "l", "a")),
    ("of", "of", "beside"): ("holder beside other", "none", "whole", "of", ("name", "n", "a")),
    ("of", "of", "behind"): ("holder over other", "none", "whole", "of", ("name", "m", "a")),
    # The named import gives the found thing, too, because it has to give one under every book.
    ("all", "named", ""): ("other over holder", "none", "named l, all m", "name", ("name", "l", "a")),
    ("named", "named", "other"): ("other over holder", "none", "named, named", "name", ("name", "l", "a")),
    ("member", "member", "nearer"): ("none", "member of elder", "none", "member", ("member", "k", "a")),
    ("spread", "member", ""): ("spread", "empty", "all", "member", ("member", "k", "a")),
    ("member", "spread", ""): ("empty", "member", "all", "member", ("spread", "l", "k", "a")),
    ("spread", "spread", "nearer"): ("spread of elder", "elder", "all", "member", ("spread", "l", "k", "a")),
    ("spread", "spread", "farther"): ("spread", "elder", "all", "member", ("spread", "l", "g", "a")),
    ("spread", "spread", "level"): ("spread over other", "empty", "all", "member", ("spread", "m", "k", "a")),
    ("mark", "member", ""): ("none", "empty", "none", "no use, unmarked", ("member", "k", "a")),
    ("once", "all", "other"): ("holder, other", "none", "all, all", "no use", ("name", "m", "a")),
    ("once", "all", "ahead"): ("other over holder", "none", "all", "no use", ("name", "l", "a")),
    ("once", "all", "beside"): ("holder beside other", "none", "all", "no use", ("name", "n", "a")),
    ("once", "all", "behind"): ("holder over other", "none", "all", "no use", ("name", "m", "a")),
    ("import", "named", "ahead"): ("other over holder", "none", "named", "no use", ("name", "l", "a")),
    ("import", "named", "beside"): ("holder beside other", "none", "named", "no use", ("name", "n", "a")),
    ("import", "named", "behind"): ("holder over other", "none", "named", "no use", ("name", "m", "a")),
}
