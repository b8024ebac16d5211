"""Where programs over one small state may be paused while others go on."""
