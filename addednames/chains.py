"""The chains of the classes of a world."""

from addednames.errors import UnknownName


def chain(world, name):
    """The class, its elder, the elder of this one, and so on."""
    found = [name]
    elder = world.elder_of(name)
    while elder is not None:
        found.append(elder)
        elder = world.elder_of(elder)
    return found


def nearest(world, name, member):
    """The least distance at which a class of the chain has the member, or None."""
    for distance, owner in enumerate(chain(world, name)):
        if member in world.members_of(owner):
            return distance
    return None


def heirs(world, name):
    """The classes in whose chain the class stands, without itself, in the order of the world."""
    if not world.has_class(name):
        raise UnknownName(name)
    found = [name]
    # An elder stands ahead of its heirs, so one pass over the classes meets them all.
    for other in world.class_names():
        if world.elder_of(other) in found:
            found.append(other)
    return found[1:]
