"""Onemore: things that stay where their last user left them."""
