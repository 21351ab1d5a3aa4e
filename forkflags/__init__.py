"""Forkflags: the newest record told by flags alone."""
