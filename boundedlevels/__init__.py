"""A level that goes through additions, floors and caps, for all starts at once."""
