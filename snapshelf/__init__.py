"""Snapshelf: files on a small disk, with snapshots and clones."""
