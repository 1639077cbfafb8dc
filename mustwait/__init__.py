"""Mustwait: transactions on typed objects that wait only where they must."""
