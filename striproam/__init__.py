"""Striproam: machines that read a strip to and fro."""
