"""Oncethrough: papers for yes and for no that are read once with few cells."""
