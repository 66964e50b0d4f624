"""A wheel with poles that follows a turning field unseen."""
