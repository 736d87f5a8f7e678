"""Farmates: roads too long to be walked, and what their matings make one."""
